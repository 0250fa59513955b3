import PyProof.Rows.All
import Wide.All
import OpenK.AllK
import Wide.FinOn
import Lean
import PyProof.EqAt
import PyProof.EqKinds
import PyProof.TupleCall
import PySem.SetOps
import PyProof.SetScanFacts
import PyProof.SetKind
import PyProof.DictKinds
import PyProof.DictWalks
import PyProof.WalksMore
import PyProof.FactsAll.set_1
import PyProof.SetNew
import PyProof.Rows.SetListFold
import PyProof.Rows.SetFrom
import PySem.Challenge.RW_onechoice_k04_whole_one_choice
set_option Elab.async false
set_option linter.all false
set_option maxRecDepth 100000
namespace L2
open PySem PySem.Spec PyProof.Rows
abbrev Key := Sum Int Str
def keyIs : Key -> Value -> Bool
 | .inl k,v => Value.isInt k v
 | .inr x,v => Value.isStrOf x v
def keyH (w : World) : Key -> Int
 | .inl k => hashInt k
 | .inr x => hashStr w x
theorem zaF : ∀ {k : Key} {v : Value},keyIs k v = true -> (∃ i t,k = Sum.inl i /\ v = Value.int i t) ∨ (∃ x t,k = Sum.inr x /\ v = Value.str x t)
 | .inl i,v,h => by
  obtain ⟨t,e⟩ := Value.isInt_shape (k := i) (v := v) h
  exact .inl ⟨i,t,rfl,e⟩
 | .inr x,v,h => by
  obtain ⟨t,e⟩ := Value.isStrOf_shape (x := x) (v := v) h
  exact .inr ⟨x,t,rfl,e⟩
theorem keyIs_int (i : Int) (t : Tok) : keyIs (.inl i) (.int i t) = true := by simp [keyIs,Value.isInt]
theorem keyIs_str (x : Str) (t : Tok) : keyIs (.inr x) (.str x t) = true := by simp [keyIs,Value.isStrOf]
theorem key_ll (a b : Int) : decide ((Sum.inl a : Key) = Sum.inl b) = (a == b) := by
 by_cases e : a = b
 ·subst e; simp
 ·have h : ¬ (Sum.inl a : Key) = Sum.inl b := fun q => e (Sum.inl.inj q)
  rw [decide_eq_false h]
  exact (beq_eq_false_iff_ne.mpr e).symm
theorem key_rr (a b : Str) : decide ((Sum.inr a : Key) = Sum.inr b) = decide (a = b) := by
 by_cases e : a = b
 ·subst e; simp
 ·have h : ¬ (Sum.inr a : Key) = Sum.inr b := fun q => e (Sum.inr.inj q)
  rw [decide_eq_false h,decide_eq_false e]
theorem key_lr (a : Int) (b : Str) : decide ((Sum.inl a : Key) = Sum.inr b) = false := decide_eq_false (fun q => nomatch q)
theorem key_rl (a : Str) (b : Int) : decide ((Sum.inr a : Key) = Sum.inl b) = false := decide_eq_false (fun q => nomatch q)
def zau (prog : Program) (w : World) : PySem.KeyKind prog w Key where
 is := keyIs
 hash := keyH w
 inj := fun v a b ha hb => by
  rcases zaF ha with ⟨i,t,rfl,rfl⟩ | ⟨x,t,rfl,rfl⟩
  ·rcases zaF hb with ⟨j,u,rfl,e⟩ | ⟨y,u,rfl,e⟩
   ·injection e with e1 _; rw [e1]
   ·exact nomatch e
  ·rcases zaF hb with ⟨j,u,rfl,e⟩ | ⟨y,u,rfl,e⟩
   ·exact nomatch e
   ·injection e with e1 _; rw [e1]
 byValue := fun k v h => by
  rcases zaF h with ⟨i,t,rfl,rfl⟩ | ⟨x,t,rfl,rfl⟩ <;> rfl
 pyHash := fun hv h => by
  rcases zaF hv with ⟨i,t,rfl,rfl⟩ | ⟨x,t,rfl,rfl⟩
  ·exact wpAny_pyHash_int h
  ·exact wpAny_pyHash_str h
 eqBool := fun hu hv h => by
  rcases zaF hu with ⟨i,t,rfl,rfl⟩ | ⟨x,t,rfl,rfl⟩
  ·rcases zaF hv with ⟨j,u,rfl,rfl⟩ | ⟨y,u,rfl,rfl⟩
   ·rw [key_ll] at h; exact wpAny_eqBool_int h
   ·rw [key_lr] at h; exact SeqAt.EqAt.int_str i t y u _ _ _ _ h
  ·rcases zaF hv with ⟨j,u,rfl,rfl⟩ | ⟨y,u,rfl,rfl⟩
   ·rw [key_rl] at h; exact SeqAt.EqAt.str_int x t j u _ _ _ _ h
   ·rw [key_rr] at h; exact wpAny_eqBool_str h
 «strs» := fun k x t v h => by
  rcases zaF h with ⟨i,u,rfl,e⟩ | ⟨y,u,rfl,e⟩
  ·exact nomatch e
  ·injection e with e1 _
   subst e1
   cases v <;> rfl
theorem mixKind_int (prog : Program) (w : World) (i : Int) (t : Tok) : (zau prog w).is (.inl i) (.int i t) = true := keyIs_int i t
theorem mixKind_str (prog : Program) (w : World) (x : Str) (t : Tok) : (zau prog w).is (.inr x) (.str x t) = true := keyIs_str x t
end L2
namespace L2
open PySem PySem.Spec PyProof.Rows
inductive V where
 | non | bl (b : Bool) | int (i : Int) | str (x : Str) | byt (b : Array UInt8) | flt (b : UInt64) | ref (a : Addr) | ty (n : String)
 deriving DecidableEq
def zaG : V -> Value -> Prop
 | .non,u => u = Value.none
 | .bl b,u => u = Value.bool b
 | .int i,u => ∃ t,u = Value.int i t
 | .str x,u => ∃ t,u = Value.str x t
 | .byt b,u => ∃ t,u = Value.bytes b t
 | .flt b,u => ∃ t,u = Value.float b t
 | .ref a,u => u = Value.ref a
 | .ty n,u => u = Value.type n
abbrev zav : List V -> List Value -> Prop := Paired zaG
theorem zav.length {xs : List V} {us : List Value} (r : zav xs us) : xs.length = us.length := Paired.length r
theorem zav.get : ∀ {xs : List V} {us : List Value} {i : Nat} {x : V},zav xs us -> xs[i]? = some x -> ∃ u,us[i]? = some u /\ zaG x u
 | _,_,_,_,.nil,e => by simp at e
 | _,_,0,_,.cons r _,e => by simp at e; subst e; exact ⟨_,rfl,r⟩
 | _,_,i + 1,x,.cons _ t,e => by
  obtain ⟨u,h1,h2⟩ := zav.get (i := i) (x := x) t (by simpa using e)
  exact ⟨u,by simpa using h1,h2⟩
theorem zav.set {x : V} {u : Value} (r : zaG x u) : ∀ {xs : List V} {us : List Value} (i : Nat),zav xs us -> zav (xs.set i x) (us.set i u)
 | _,_,_,.nil => .nil
 | _,_,0,.cons _ t => .cons r t
 | _,_,i + 1,.cons q t => .cons q (zav.set r i t)
theorem zav.append : ∀ {xs ys : List V} {us ws : List Value},zav xs us -> zav ys ws -> zav (xs ++ ys) (us ++ ws)
 | _,_,_,_,.nil,s => s
 | _,_,_,_,.cons r t,s => .cons r (zav.append t s)
theorem zav.take : ∀ {xs : List V} {us : List Value} (n : Nat),zav xs us -> zav (xs.take n) (us.take n)
 | _,_,0,_ => .nil
 | _,_,_ + 1,.nil => .nil
 | _,_,n + 1,.cons r t => .cons r (zav.take n t)
theorem zav.drop : ∀ {xs : List V} {us : List Value} (n : Nat),zav xs us -> zav (xs.drop n) (us.drop n)
 | _,_,0,r => r
 | _,_,_ + 1,.nil => .nil
 | _,_,n + 1,.cons _ t => zav.drop n t
def RelO : Option V -> Option Value -> Prop
 | some v,some u => zaG v u
 | none,none => True
 | _,_ => False
def KV {κ : Type} : List (κ × V) -> List (κ × Value) -> Prop := Paired fun (p : κ × V) (q : κ × Value) => p.1 = q.1 /\ zaG p.2 q.2
def kV : Key -> V
 | .inl i => .int i
 | .inr x => .str x
inductive HO where
 | lst (xs : List V)
 | tup (xs : List V)
 | dK (kvs : List (Key × V)) | dT (kvs : List (List Key × V))
 | set (S : Int -> Bool) (n : Nat)
 | ins (C dx : Addr) (fs : List (Str × V))
 | own (x : Addr)
 | xd (fs : List (Str × V))
 | met (f x : Addr)
 | rng (lo hi : Int)
 | frz (o : Obj) (u : HO)
 | tbl (ps : Array Value)
 | ext (φ : Heap -> Prop)
abbrev Hp := Addr -> Option HO
def upd (H : Hp) (a : Addr) (o : HO) : Hp := fun b => if b = a then some o else H b
theorem zag {H : Hp} {a : Addr} {o : HO} : upd H a o a = some o := by unfold upd; rw [if_pos rfl]
theorem zah {H : Hp} {a b : Addr} {o : HO} (h : b ≠ a) : upd H a o b = H b := by unfold upd; rw [if_neg h]
theorem ne_of {H : Hp} {a b : Addr} {o u : HO} (h : H a = some o) (h' : H b = some u) (d : o ≠ u) : a ≠ b := by
 intro e; subst e; rw [h] at h'; exact d (Option.some.inj h')
theorem zao {H : Hp} {a b : Addr} {o : HO} (h : H a = some o) (h' : H b = none) : a ≠ b := by
 intro e; subst e; rw [h] at h'; cases h'
section
variable (P : Program) (w : World)
def za2 (H : Hp) (h : Heap) (a : Addr) : HO -> Prop
 | .lst xs => xs.length <= sizeLine /\ ∃ (its : List Value) (n : Nat),zav xs its /\ h.get? a = some { cls := .type "list",data := .seq its.toArray n }
 | .tup xs => xs.length <= sizeLine /\ ∃ its : List Value,zav xs its /\ IsTup h a its.toArray
 | .dK kvs => kvs.length <= sizeLine /\ (a == sysModules) = false /\ ∃ vs,KV kvs vs /\ h.DictOf (zau P w) a vs
 | .dT kvs => kvs.length <= sizeLine /\ (a == sysModules) = false /\ ∃ xs : List (List Key × Addr × Value),
   Paired (fun (p : List Key × V) (q : List Key × Addr × Value) => p.1 = q.1 /\ H q.2.1 = some (.tup (p.1.map kV)) /\ zaG p.2 q.2.2) kvs xs /\
   ∃ o es ep,h.get? a = some o /\ o.ExactDict /\ o.data = .dict es ep /\ es.toList = xs.map (entryOfKey (tupleKind (zau P w))) /\ (xs.map (·.1)).Nodup
 | .set S n => h.SetOf (intKind P w) a S n
 | .ins C dx fs => H dx = some (.own a) /\ fs.length <= 1000 /\ dx ≠ a /\ h.get? a = some (PySem.W.instObj C dx) /\
   ∃ mA,h.Ns1 dx mA /\ (∀ f,RelO (fs.lookup f) (mA f)) /\ PySem.Within mA (fs.map (·.1))
 | .own _ => ∃ o,h.get? a = some o
 | .xd fs => ∃ mA,h.Ns1 a mA /\ ∀ f,RelO (fs.lookup f) (mA f)
 | .rng lo hi => ∃ t u v,h.get? a = some { cls := .type "range",data := .fields #[.int lo t,.int hi u,.int 1 v] }
 | .frz o u => h.get? a = some o /\ za2 H h a u
 | .tbl ps => h.get? a = some { cls := .none,data := .fields ps }
 | .met f x => h.get? a = some (PySem.W.methodObj (.ref f) (.ref x))
 | .ext φ => φ h /\ (∃ o,h.get? a = some o) /\ ∀ h1 h2 : Heap,φ h1 -> (∀ o,h1.get? a = some o -> h2.get? a = some o) -> φ h2
def HOk (H : Hp) (h : Heap) : Prop := ∀ a o,H a = some o -> za2 P w H h a o
end
section
variable {P : Program} {w : World} {H H' : Hp} {h h' : Heap} {a : Addr} {o : HO}
theorem za2.lt (x : za2 P w H h a o) : a < h.objs.size := by
 cases o with
 | lst xs => obtain ⟨_,_,_,_,e⟩ := x; exact Heap.lt_size e
 | tup xs => obtain ⟨_,_,_,p⟩ := x; exact p.lt
 | dK kvs => obtain ⟨_,_,_,_,o,_,_,e,_⟩ := x; exact Heap.lt_size e
 | dT kvs => obtain ⟨_,_,_,_,o,_,_,e,_⟩ := x; exact Heap.lt_size e
 | set S n => obtain ⟨o,_,_,_,e,_⟩ := x; exact Heap.lt_size e
 | ins C dx fs => obtain ⟨_,_,_,e,_⟩ := x; exact Heap.lt_size e
 | own y => obtain ⟨_,e⟩ := x; exact Heap.lt_size e
 | xd fs => obtain ⟨_,⟨_,_,_,e,_⟩,_⟩ := x; exact Heap.lt_size e
 | rng lo hi => obtain ⟨_,_,_,e⟩ := x; exact Heap.lt_size e
 | frz ob u => obtain ⟨e,_⟩ := x; exact Heap.lt_size e
 | tbl ps => exact Heap.lt_size (show h.get? a = some _ from x)
 | met f y => exact Heap.lt_size (show h.get? a = some _ from x)
 | ext φ => obtain ⟨_,⟨_,e⟩,_⟩ := x; exact Heap.lt_size e
theorem Paired.mapP {α β : Type} {F G : α -> β -> Prop} : ∀ {l₁ : List α} {l₂ : List β},Paired F l₁ l₂ -> (∀ a b,F a b -> G a b) -> Paired G l₁ l₂
 | _,_,.nil,_ => .nil
 | _,_,.cons r t,f => .cons (f _ _ r) (Paired.mapP t f)
theorem za2.stay (x : za2 P w H h a o) (k : ∀ b u,(b = a ∨ H b = some (.own a)) -> h.get? b = some u -> h'.get? b = some u)
  (ho : ∀ b,H b = some (.own a) -> H' b = some (.own a)) (ht : ∀ b xs,H b = some (.tup xs) -> H' b = some (.tup xs)) : za2 P w H' h' a o := by
 induction o with
 | lst xs => obtain ⟨z,its,n,r,e⟩ := x; exact ⟨z,its,n,r,k _ _ (.inl rfl) e⟩
 | tup xs => obtain ⟨z,its,r,ob,e,c⟩ := x; exact ⟨z,its,r,ob,k _ _ (.inl rfl) e,c⟩
 | dK kvs => obtain ⟨z,y,vs,r,ob,es,ep,e,c⟩ := x; exact ⟨z,y,vs,r,ob,es,ep,k _ _ (.inl rfl) e,c⟩
 | dT kvs =>
  obtain ⟨z,y,xs,r,ob,es,ep,e,c⟩ := x
  exact ⟨z,y,xs,Paired.mapP r fun p q z => ⟨z.1,ht _ _ z.2.1,z.2.2⟩,ob,es,ep,k _ _ (.inl rfl) e,c⟩
 | set S n => obtain ⟨ob,es,ep,t,e,c⟩ := x; exact ⟨ob,es,ep,t,k _ _ (.inl rfl) e,c⟩
 | ins C dx fs =>
  obtain ⟨d,z,ne,e,mA,⟨od,es,ep,e2,c⟩,r⟩ := x
  exact ⟨ho _ d,z,ne,k _ _ (.inl rfl) e,mA,⟨od,es,ep,k _ _ (.inr d) e2,c⟩,r⟩
 | own y => obtain ⟨ob,e⟩ := x; exact ⟨ob,k _ _ (.inl rfl) e⟩
 | xd fs => obtain ⟨mA,⟨od,es,ep,e,c⟩,r⟩ := x; exact ⟨mA,⟨od,es,ep,k _ _ (.inl rfl) e,c⟩,r⟩
 | rng lo hi => obtain ⟨t,u,v,e⟩ := x; exact ⟨t,u,v,k _ _ (.inl rfl) e⟩
 | frz ob u ih => obtain ⟨e,q⟩ := x; exact ⟨k _ _ (.inl rfl) e,ih q⟩
 | tbl ps =>
  have e : h.get? a = some { cls := .none,data := .fields ps } := x
  show h'.get? a = some { cls := .none,data := .fields ps }
  exact k a _ (.inl rfl) e
 | met f y =>
  have e : h.get? a = some (PySem.W.methodObj (.ref f) (.ref y)) := x
  show h'.get? a = some (PySem.W.methodObj (.ref f) (.ref y))
  exact k a _ (.inl rfl) e
 | ext φ => obtain ⟨p,⟨o,e⟩,st⟩ := x; exact ⟨st _ _ p fun o q => k _ _ (.inl rfl) q,⟨o,k _ _ (.inl rfl) e⟩,st⟩
theorem HOk.lt (x : HOk P w H h) (e : H a = some o) : a < h.objs.size := (x a o e).lt
theorem HOk.fresh (x : HOk P w H h) (e : h.objs.size <= a) : H a = none := by
 cases q : H a with
 | none => rfl
 | some u => exact absurd (Nat.lt_of_lt_of_le (x.lt q) e) (Nat.lt_irrefl _)
theorem HOk.kept (x : HOk P w H h) (k : ∀ b u,h.get? b = some u -> h'.get? b = some u) : HOk P w H h' := fun a o e =>
 (x a o e).stay (fun b u _ q => k b u q) (fun _ q => q) fun _ _ q => q
theorem HOk.laid (x : HOk P w H h) (k : ∀ b u,h.get? b = some u -> h'.get? b = some u) (hp : h.objs.size <= a) (new : za2 P w (upd H a o) h' a o) : HOk P w (upd H a o) h' := fun b u e => by
 have hn := x.fresh hp
 by_cases hb : b = a
 ·subst hb; rw [zag] at e; cases e; exact new
 ·rw [zah hb] at e
  exact (x b u e).stay (fun c v _ q => k c v q) (fun c q => by rw [zah (zao q hn)]; exact q) fun c xs q => by rw [zah (zao q hn)]; exact q
end
def Rd (H : Hp) (a : Addr) (u : HO) : Prop := H a = some u ∨ ∃ o,H a = some (.frz o u)
theorem Rd.ok {P : Program} {w : World} {H : Hp} {h : Heap} {a : Addr} {u : HO} (r : Rd H a u) (x : HOk P w H h) : za2 P w H h a u := by
 rcases r with r | ⟨o,r⟩
 ·exact x a u r
 ·obtain ⟨_,q⟩ := x a _ r
  exact q
def Mut : Option HO -> Prop
 | some (.lst _) => True
 | some (.dK _) => True
 | some (.dT _) => True
 | some (.set _ _) => True
 | some (.ins _ _ _) => True
 | some (.ext _) => True
 | _ => False
section
variable {P : Program} {w : World} {H : Hp} {h h' : Heap} {x e : Addr} {o' : HO}
theorem HOk.write (ok : HOk P w H h) (mu : Mut (H x)) (he : e = x ∨ H e = some (.own x)) (k : ∀ b u,b ≠ e -> h.get? b = some u -> h'.get? b = some u) (heo : ∃ u,h'.get? e = some u)
  (new : za2 P w (upd H x o') h' x o') : HOk P w (upd H x o') h' := fun b u q => by
 have nown : ∀ c y,H c = some (.own y) -> c ≠ x := fun c y r z => by subst z; rw [r] at mu; exact mu
 have ntup : ∀ c xs,H c = some (.tup xs) -> c ≠ x := fun c xs r z => by subst z; rw [r] at mu; exact mu
 by_cases hb : b = x
 ·subst hb; rw [zag] at q; cases q; exact new
 ·rw [zah hb] at q
  by_cases hbe : b = e
  ·have q' : H b = some (.own x) := by
    rcases he with z | z
    ·exact absurd (hbe.trans z) hb
    ·rw [hbe]; exact z
   rw [q] at q'; cases q'
   obtain ⟨v,hv⟩ := heo
   exact ⟨v,by rw [hbe]; exact hv⟩
  ·refine (ok b u q).stay (fun c v hc r => k c v ?_ r) (fun c r => by rw [zah (nown c b r)]; exact r) fun c xs r => by rw [zah (ntup c xs r)]; exact r
   rcases hc with rfl | hc
   ·exact hbe
   ·rintro rfl
    rcases he with z | z
    ·exact nown c b hc z
    ·rw [hc] at z; cases z; exact hb rfl
end
structure Un (fs ex : List Addr) (H H' : Hp) (h h' : Heap) : Prop where
 keep : ∀ b o,h.get? b = some o -> H b = none -> b ∉ fs -> b ∉ ex -> h'.get? b = some o
 slot : ∀ b o,h.get? b = some o -> H b = none -> b ∈ fs -> b ∉ ex -> ∃ sl,h'.get? b = some { o with slots := sl }
 free : ∀ b o,h.get? b = some o -> H b = none -> b ∉ ex -> H' b = none
 there : ∀ b o,h.get? b = some o -> b ∉ ex -> ∃ o',h'.get? b = some o'
 tups : ∀ b xs,H b = some (.tup xs) -> H' b = some (.tup xs)
 frzs : ∀ b o u,H b = some (.frz o u) -> H' b = some (.frz o u)
 tbls : ∀ b ps,H b = some (.tbl ps) -> ∃ more,H' b = some (.tbl (ps ++ more))
section
variable {fs fs' ex ex' : List Addr} {H H1 H2 : Hp} {h h1 h2 h' : Heap} {a x e : Addr} {o : HO}
theorem Un.any (u : Un fs ex H H1 h h1) {b : Addr} {ob : Obj} (q : h.get? b = some ob) (n : H b = none) (hx : b ∉ ex) : ∃ sl,h1.get? b = some { ob with slots := sl } := by
 by_cases hb : b ∈ fs
 ·exact u.slot b ob q n hb hx
 ·exact ⟨ob.slots,u.keep b ob q n hb hx⟩
theorem Un.kept (k : ∀ b u,h.get? b = some u -> h'.get? b = some u) : Un fs ex H H h h' :=
 ⟨fun b ob q _ _ _ => k b ob q,fun b ob q _ _ _ => ⟨ob.slots,k b ob q⟩,fun _ _ _ n _ => n,fun b ob q _ => ⟨ob,k b ob q⟩,fun _ _ q => q,fun _ _ _ q => q,fun _ ps q => ⟨#[],by rw [q]; simp⟩⟩
theorem Un.refl : Un fs ex H H h h := Un.kept fun _ _ q => q
theorem Un.laid (k : ∀ b u,h.get? b = some u -> h'.get? b = some u) (hp : h.objs.size <= a) (hn : H a = none) : Un fs ex H (upd H a o) h h' where
 keep := fun b u q _ _ _ => k b u q
 slot := fun b u q _ _ _ => ⟨u.slots,k b u q⟩
 free := fun b u q n _ => by rw [zah (Nat.ne_of_lt (Nat.lt_of_lt_of_le (Heap.lt_size q) hp))]; exact n
 there := fun b u q _ => ⟨u,k b u q⟩
 tups := fun b xs q => by rw [zah (zao q hn)]; exact q
 frzs := fun b u xs q => by rw [zah (zao q hn)]; exact q
 tbls := fun b ps q => ⟨#[],by rw [zah (zao q hn),q]; simp⟩
theorem Un.write (mu : Mut (H x)) (he : e = x ∨ H e = some (.own x)) (k : ∀ b u,b ≠ e -> h.get? b = some u -> h'.get? b = some u) (heo : ∃ u,h'.get? e = some u) : Un fs ex H (upd H x o) h h' := by
 have hx : ∀ b,H b = none -> b ≠ x := fun b n z => by subst z; rw [n] at mu; exact mu
 have hb : ∀ b,H b = none -> b ≠ e := fun b n z => by
  subst z
  rcases he with r | r
  ·exact hx b n r
  ·rw [n] at r; cases r
 have hm : ∀ b u,H b = some u -> ¬ Mut (some u) -> b ≠ x := fun b u q nm z => by subst z; rw [q] at mu; exact nm mu
 refine ⟨fun b u q n _ _ => k b u (hb b n) q,fun b u q n _ _ => ⟨u.slots,k b u (hb b n) q⟩,fun b u q n _ => by rw [zah (hx b n)]; exact n,fun b u q _ => ?_,
  fun b xs q => by rw [zah (hm b _ q fun z => z)]; exact q,fun b u xs q => by rw [zah (hm b _ q fun z => z)]; exact q,fun b ps q => ⟨#[],by rw [zah (hm b _ q fun z => z),q]; simp⟩⟩
 by_cases hbe : b = e
 ·subst hbe; exact heo
 ·exact ⟨u,k b u hbe q⟩
end
def trk (h : Heap) (H : Hp) : List Addr := (List.range h.objs.size).filter fun a => (H a).isSome
def hidT (h : Heap) (H : Hp) : Heap := PySem.W.hideAll h (trk h H)
theorem hidT_size (h : Heap) (H : Hp) : (hidT h H).objs.size = h.objs.size := PySem.W.hideAll_size _ _
theorem hidT_get {h : Heap} {H : Hp} {b : Addr} {o : Obj} (e : h.get? b = some o) (n : H b = none) : (hidT h H).get? b = some o :=
 PySem.W.hideAll_get _ e fun hm => by
  have q : (H b).isSome = true := (List.mem_filter.mp hm).2
  rw [n] at q; simp at q
theorem of_hidT {h : Heap} {H : Hp} {b : Addr} {o : Obj} (e : (hidT h H).get? b = some o) : h.get? b = some o /\ H b = none := by
 have e' : h.get? b = some o := PySem.W.of_hideAll (trk h H) e
 refine ⟨e',?_⟩
 cases q : H b with
 | none => rfl
 | some x =>
  have hm : b ∈ trk h H := List.mem_filter.mpr ⟨List.mem_range.mpr (Heap.lt_size e'),by simp [q]⟩
  have z : (hidT h H).get? b = none := PySem.W.hideAll_none (trk h H) hm
  rw [z] at e; cases e
def allNews (g h : Heap) (L : Addr) : List (Addr × Obj) := (List.range h.objs.size).filterMap fun a => if a = L ∨ (g.get? a).isSome = true then none else (h.get? a).map fun o => (a,o)
def rest (g h : Heap) (L d : Addr) : List (Addr × Obj) := (allNews g h L).filter fun p => decide (p.1 ≠ d)
end L2
namespace L2
open PySem PySem.Spec PyProof.Rows
structure Mod (K : PySem.W.Frag) (mg : Str -> Option Value) (base : Heap) : Prop where
 kin : K.In base
 glob : base.Ns mainGlobals mg
 blt : ∃ mb,base.Ns builtinsNs mb /\ ∀ x : Str,x ≠ "__name__" -> mb x = bootBuiltins x
 nolimit : base.NoLimit
structure Cx where
 prog : Program
 w : World
 K : PySem.W.Frag
 mg : Str -> Option Value
 base : Heap
 A : Around
 N : List Str
 s₀ : Shared
 H₀ : Hp
 env : Env
 outer : List Env
 stack : List Env
 ex : List Addr
 fn : Str -> Bool
 calm : Bool
 pn : List (Addr × Obj)
 xe : Value -> Shared -> Prop
def frs (l : List Env) : List Addr := l.filterMap (·.frame)
abbrev Cx.fs (X : Cx) : List Addr := frs X.outer
def Vis (sc : Scope) (x : Str) : Prop := sc.names.lookup x = some .local ∨ sc.names.lookup x = some .cell ∨ sc.names.lookup x = some .free
def Loc (sc : Scope) (x : Str) : Prop := sc.names.lookup x = some .local ∨ sc.names.lookup x = some .cell
def Look (env : Env) (h : Heap) (m : Str -> Option Value) (x : Str) (u : Value) : Prop :=
 (env.kindOf x = some .local /\ m x = some u) ∨ ((env.kindOf x = some .cell ∨ env.kindOf x = some .free) /\ ∃ c,env.cells.lookup x = some c /\ h.IsCell c (some u))
structure Cx.Ok (X : Cx) : Prop where
 mod : Mod X.K X.mg X.base
 kind : X.env.scope.kind = .function
 glob : X.env.globals = mainGlobals
 blt : X.env.builtins = builtinsNs
 above : X.s₀.heap.objs.size <= X.env.locals
 inj : ∀ x y c,X.env.cells.lookup x = some c -> X.env.cells.lookup y = some c -> x = y
 has : ∀ x,(X.env.kindOf x = some .cell ∨ X.env.kindOf x = some .free) -> ∃ c,X.env.cells.lookup x = some c
 cab : ∀ x c,X.fn x = true -> X.env.cells.lookup x = some c -> X.s₀.heap.objs.size <= c
 hd : X.calm = true -> X.A.handled = none
 frames : X.A.frames = some X.stack
 stk : X.stack = X.outer ∨ (X.stack = X.env :: X.outer /\ X.env.frame = some X.env.locals)
 exf : ∀ b ∈ X.ex,b ≠ X.env.locals /\ ∀ x c,X.env.cells.lookup x = some c -> c ≠ b
 bs : ∀ b o,X.base.get? b = some o -> X.s₀.heap.get? b = some o /\ X.H₀ b = none
 bsz : X.base.objs.size <= X.s₀.heap.objs.size
 noex : ∀ b o,X.base.get? b = some o -> b ∉ X.ex
 exfs : ∀ b ∈ X.ex,b ∉ X.fs
 funs : X.s₀.heap.FunFrames X.base X.outer
 frf : ∀ b ∈ X.fs,X.H₀ b = none
structure Inv (X : Cx) (pins : List (Addr × Obj)) (σ : List (Option V)) (H : Hp) (s : Shared) : Prop where
 ok : X.Ok
 os : s.os = X.s₀.os
 bare : AllBare s.gens
 base : Un X.fs X.ex X.H₀ H X.s₀.heap s.heap
 loc : ∃ m,s.heap.Ns X.env.locals m /\ ∀ (i : Nat) (x : Str) (v : V),X.N[i]? = some x -> σ[i]? = some (some v) -> Vis X.env.scope x -> ∃ u,zaG v u /\ Look X.env s.heap m x u
 cell : ∀ x c,X.env.cells.lookup x = some c -> ∃ v,s.heap.IsCell c v
 free : H X.env.locals = none
 freeC : ∀ x c,X.env.cells.lookup x = some c -> H c = none
 pin : ∀ p ∈ X.pn ++ pins,s.heap.get? p.1 = some p.2 /\ H p.1 = none /\ p.1 ≠ X.env.locals /\ p.1 ∉ X.fs /\ ∀ v,p.2.data ≠ .cell v
 hok : HOk X.prog X.w H s.heap
 len : σ.length = X.N.length
section
variable {X : Cx} {pins : List (Addr × Obj)} {σ : List (Option V)} {H H' : Hp} {s : Shared} {h' : Heap}
theorem Cx.Ok.nofr (ok : X.Ok) {b : Addr} {o : Obj} (e : X.base.get? b = some o) : b ∉ X.fs := fun hb => by
 have := (ok.funs.mem hb).1
 rw [e] at this; cases this
theorem Inv.bs (I : Inv X pins σ H s) : ∀ b o,X.base.get? b = some o -> s.heap.get? b = some o /\ H b = none := fun b o e =>
 ⟨I.base.keep b o (I.ok.bs b o e).1 (I.ok.bs b o e).2 (I.ok.nofr e) (I.ok.noex b o e),I.base.free b o (I.ok.bs b o e).1 (I.ok.bs b o e).2 (I.ok.noex b o e)⟩
theorem Inv.bk (I : Inv X pins σ H s) : ∀ b o,X.base.get? b = some o -> s.heap.get? b = some o := fun b o e => (I.bs b o e).1
theorem Inv.mod (I : Inv X pins σ H s) : Mod X.K X.mg X.base := I.ok.mod
theorem Inv.kIn (I : Inv X pins σ H s) : X.K.In s.heap := I.ok.mod.kin.keeps I.bk
theorem Inv.fr (I : Inv X pins σ H s) : ∃ m,Fr X.base X.env.locals s.heap m :=
 let ⟨m,hn,_⟩ := I.loc
 ⟨m,hn,I.bk,Nat.le_trans I.ok.bsz I.ok.above⟩
theorem Inv.lt (I : Inv X pins σ H s) : X.env.locals < s.heap.objs.size := let ⟨_,hn,_⟩ := I.loc; hn.lt
theorem Inv.sz (I : Inv X pins σ H s) : X.s₀.heap.objs.size <= s.heap.objs.size := Nat.le_trans I.ok.above (Nat.le_of_lt I.lt)
theorem Inv.nofs (I : Inv X pins σ H s) {a : Addr} (h : s.heap.objs.size <= a) : a ∉ X.fs := fun hb => by
 obtain ⟨_,o,ho,_⟩ := I.ok.funs.mem hb
 exact absurd (Nat.lt_of_lt_of_le (Heap.lt_size ho) (Nat.le_trans I.sz h)) (Nat.lt_irrefl _)
theorem Inv.cne (I : Inv X pins σ H s) : ∀ x c,X.env.cells.lookup x = some c -> c ≠ X.env.locals := fun x c e z => by
 obtain ⟨v,o,ho,hd⟩ := I.cell x c e
 obtain ⟨m,⟨o',es,ep,ho',hd',_⟩,_⟩ := I.loc
 rw [z,ho'] at ho; cases ho; rw [hd'] at hd; cases hd
theorem Inv.funs (I : Inv X pins σ H s) : s.heap.FunFrames X.base X.outer := by
 have all : ∀ (l : List Env),(∀ b ∈ frs l,b ∈ X.fs) -> X.s₀.heap.FunFrames X.base l -> s.heap.FunFrames X.base l := by
  intro l
  induction l with
  | nil => intro _ _; trivial
  | cons env r ih =>
   intro hs hl
   obtain ⟨hk,⟨L,o,hf,hn,ho,hd⟩,hr⟩ := hl
   have hL : L ∈ X.fs := hs L (by unfold frs; rw [List.filterMap_cons,hf]; exact List.mem_cons_self)
   obtain ⟨sl,e⟩ := I.base.slot L o ho (I.ok.frf L hL) hL fun z => I.ok.exfs L z hL
   exact ⟨hk,⟨L,_,hf,hn,e,hd⟩,ih (fun b hb => hs b (by unfold frs; rw [List.filterMap_cons,hf]; exact List.mem_cons_of_mem _ hb)) hr⟩
 exact all X.outer (fun _ hb => hb) I.ok.funs
theorem Inv.stack (I : Inv X pins σ H s) : s.heap.FunFrames X.base X.stack := by
 rcases I.ok.stk with e | ⟨e,hf⟩
 ·rw [e]; exact I.funs
 ·rw [e]
  obtain ⟨m,hn,_⟩ := I.loc
  refine .cons (by rw [I.ok.kind]; decide) hf hn ?_ I.funs
  exact Heap.get?_none_of_le (Nat.le_trans I.ok.bsz I.ok.above)
theorem Inv.stkSub (I : Inv X pins σ H s) : ∀ b ∈ frs X.stack,b ∈ X.env.locals :: X.fs := fun b hb => by
 rcases I.ok.stk with e | ⟨e,hf⟩
 ·rw [e] at hb; exact List.mem_cons_of_mem _ hb
 ·rw [e] at hb
  unfold frs at hb
  rw [List.filterMap_cons,hf] at hb
  exact hb
theorem Inv.stkFree (I : Inv X pins σ H s) : ∀ b ∈ frs X.stack,H b = none := fun b hb => by
 rcases List.mem_cons.mp (I.stkSub b hb) with e | hb
 ·rw [e]; exact I.free
 ·obtain ⟨_,o,ho,_⟩ := I.ok.funs.mem hb
  exact I.base.free b o ho (I.ok.frf b hb) fun z => I.ok.exfs b z hb
theorem Inv.step {g' : Array GenState} {t' : Nat} {d' : Drawn} {ch : List Addr} (I : Inv X pins σ H s)
  (hch : ∀ b ∈ ch,(b ∈ X.ex ∨ X.s₀.heap.objs.size <= b) /\ b ≠ X.env.locals /\ (∀ x c,X.env.cells.lookup x = some c -> c ≠ b) /\ ∀ p ∈ X.pn ++ pins,p.1 ≠ b)
  (keep : ∀ b o,b ≠ X.env.locals -> b ∉ X.fs -> b ∉ ch -> s.heap.get? b = some o -> H b = none -> h'.get? b = some o)
  (slot : ∀ b o,b ≠ X.env.locals -> b ∈ X.fs -> b ∉ ch -> s.heap.get? b = some o -> H b = none -> ∃ sl,h'.get? b = some { o with slots := sl }) (free : ∀ b o,b ∉ ch -> s.heap.get? b = some o -> H b = none -> H' b = none)
  (there : ∀ b o,b ∉ ch -> s.heap.get? b = some o -> ∃ o',h'.get? b = some o')
  (tups : ∀ b xs,H b = some (.tup xs) -> H' b = some (.tup xs)) (frzs : ∀ b o u,H b = some (.frz o u) -> H' b = some (.frz o u)) (tbls : ∀ b ps,H b = some (.tbl ps) -> ∃ more,H' b = some (.tbl (ps ++ more)))
  (ns : ∀ m,s.heap.Ns X.env.locals m -> h'.Ns X.env.locals m) (hok : HOk X.prog X.w H' h') (hg : AllBare g') :
  Inv X pins σ H' { s with heap := h',gens := g',drawn := d',toks := t' } := by
 have neL : ∀ b o,X.s₀.heap.get? b = some o -> b ≠ X.env.locals := fun b o e => Nat.ne_of_lt (Nat.lt_of_lt_of_le (Heap.lt_size e) I.ok.above)
 have neC : ∀ b o,X.s₀.heap.get? b = some o -> b ∉ X.ex -> b ∉ ch := fun b o e hx hb => by
  rcases (hch b hb).1 with z | z
  ·exact hx z
  ·exact absurd (Nat.lt_of_lt_of_le (Heap.lt_size e) z) (Nat.lt_irrefl _)
 have cellK : ∀ x c,X.env.cells.lookup x = some c -> ∀ v,s.heap.IsCell c v -> h'.IsCell c v := fun x c e v ⟨o,ho,hd⟩ => by
  have nch : c ∉ ch := fun z => (hch c z).2.2.1 x c e rfl
  by_cases hc : c ∈ X.fs
  ·obtain ⟨sl,q⟩ := slot c o (I.cne x c e) hc nch ho (I.freeC x c e)
   exact ⟨_,q,hd⟩
  ·exact ⟨o,keep c o (I.cne x c e) hc nch ho (I.freeC x c e),hd⟩
 refine ⟨I.ok,I.os,hg,⟨fun b o e n hb hx => ?_,fun b o e n hb hx => ?_,fun b o e n hx => ?_,fun b o e hx => ?_,fun b xs e => tups b xs (I.base.tups b xs e),fun b o xs e => frzs b o xs (I.base.frzs b o xs e),fun b ps e => ?_⟩,?_,fun x c e => ?_,?_,fun x c e => ?_,fun p hp => ?_,hok,I.len⟩
 ·exact keep b o (neL b o e) hb (neC b o e hx) (I.base.keep b o e n hb hx) (I.base.free b o e n hx)
 ·obtain ⟨sl,e1⟩ := I.base.slot b o e n hb hx
  obtain ⟨sl',e2⟩ := slot b _ (neL b o e) hb (neC b o e hx) e1 (I.base.free b o e n hx)
  exact ⟨sl',e2⟩
 ·obtain ⟨o',e1⟩ := I.base.there b o e hx
  exact free b o' (neC b o e hx) e1 (I.base.free b o e n hx)
 ·obtain ⟨o',e1⟩ := I.base.there b o e hx
  exact there b o' (neC b o e hx) e1
 ·obtain ⟨m1,e1⟩ := I.base.tbls b ps e
  obtain ⟨m2,e2⟩ := tbls b _ e1
  exact ⟨m1 ++ m2,by rw [e2,Array.append_assoc]⟩
 ·obtain ⟨m,hn,hl⟩ := I.loc
  refine ⟨m,ns m hn,fun i x v e1 e2 e3 => ?_⟩
  obtain ⟨u,r,l⟩ := hl i x v e1 e2 e3
  refine ⟨u,r,?_⟩
  rcases l with l | ⟨k,c,e,z⟩
  ·exact .inl l
  ·exact .inr ⟨k,c,e,cellK x c e _ z⟩
 ·obtain ⟨v,z⟩ := I.cell x c e
  exact ⟨v,cellK x c e v z⟩
 ·obtain ⟨m,⟨o,_,_,ho,_⟩,_⟩ := I.loc
  exact free _ o (fun z => (hch _ z).2.1 rfl) ho I.free
 ·obtain ⟨v,o,ho,hd⟩ := I.cell x c e
  exact free c o (fun z => (hch c z).2.2.1 x c e rfl) ho (I.freeC x c e)
 ·obtain ⟨e,n,ne,nf,d⟩ := I.pin p hp
  have nch : p.1 ∉ ch := fun z => (hch p.1 z).2.2.2 p hp rfl
  exact ⟨keep p.1 p.2 ne nf nch e n,free p.1 p.2 nch e n,ne,nf,d⟩
theorem Inv.un {t' : Nat} (I : Inv X pins σ H s) (u : Un X.fs [] H H' s.heap h') (hok : HOk X.prog X.w H' h') : Inv X pins σ H' { s with heap := h',toks := t' } := by
 obtain ⟨m,⟨o,es,ep,ho,r⟩,_⟩ := id I.loc
 obtain ⟨sl,hL⟩ := u.any ho I.free (by simp)
 exact I.step (g' := s.gens) (d' := s.drawn) (ch := []) (fun _ z => nomatch z) (fun b o _ hb _ e n => u.keep b o e n hb (by simp)) (fun b o _ hb _ e n => u.slot b o e n hb (by simp)) (fun b o _ e n => u.free b o e n (by simp)) (fun b o _ e => u.there b o e (by simp)) u.tups u.frzs u.tbls (fun m' hm => by
  obtain ⟨o',es',ep',ho',r'⟩ := hm
  rw [ho] at ho'; cases ho'
  exact ⟨_,es',ep',hL,r'⟩) hok I.bare
theorem Inv.call {g' : Array GenState} {t' : Nat} {d' : Drawn} {ch : List Addr} (I : Inv X pins σ H s) (u : Un (frs X.stack) ch H H' s.heap h') (hok : HOk X.prog X.w H' h') (hg : AllBare g')
  (hch : ∀ b ∈ ch,(b ∈ X.ex ∨ X.s₀.heap.objs.size <= b) /\ b ≠ X.env.locals /\ (∀ x c,X.env.cells.lookup x = some c -> c ≠ b) /\ ∀ p ∈ X.pn ++ pins,p.1 ≠ b) :
  Inv X pins σ H' { s with heap := h',gens := g',drawn := d',toks := t' } := by
 obtain ⟨m,⟨o,es,ep,ho,r⟩,_⟩ := id I.loc
 obtain ⟨sl,hL⟩ := u.any ho I.free fun z => (hch _ z).2.1 rfl
 exact I.step (ch := ch) hch (fun b o hL hb hc e n => u.keep b o e n (fun z => (List.mem_cons.mp (I.stkSub b z)).elim hL hb) hc) (fun b o _ _ hc e n => u.any e n hc) (fun b o hc e n => u.free b o e n hc) (fun b o hc e => u.there b o e hc) u.tups u.frzs u.tbls (fun m' hm => by
  obtain ⟨o',es',ep',ho',r'⟩ := hm
  rw [ho] at ho'; cases ho'
  exact ⟨_,es',ep',hL,r'⟩) hok hg
theorem Inv.turned {t' : Nat} {it : Addr} (I : Inv X pins σ H s) (k : ∀ b o,b ≠ it -> s.heap.get? b = some o -> h'.get? b = some o) (hn : H it = none) (hL : it ≠ X.env.locals)
  (h1 : it ∈ X.ex ∨ X.s₀.heap.objs.size <= it) (h2 : ∀ x c,X.env.cells.lookup x = some c -> c ≠ it) (h3 : ∀ p ∈ X.pn ++ pins,p.1 ≠ it) : Inv X pins σ H { s with heap := h',toks := t' } := by
 have nit : ∀ b u,H b = some u -> b ≠ it := fun b u e z => by rw [z,hn] at e; cases e
 refine I.step (g' := s.gens) (d' := s.drawn) (ch := [it]) (fun b hb => ?_) (fun b o _ _ hc e _ => k b o (fun z => hc (by simp [z])) e) (fun b o _ _ hc e _ => ⟨o.slots,k b o (fun z => hc (by simp [z])) e⟩) (fun _ _ _ _ n => n)
  (fun b o hc e => ⟨o,k b o (fun z => hc (by simp [z])) e⟩) (fun _ _ e => e) (fun _ _ _ e => e) (fun b ps e => ⟨#[],by rw [e]; simp⟩) (fun m hm => ?_) (fun b u e => ?_) I.bare
 ·have e : b = it := by simpa using hb
  subst e
  exact ⟨h1,hL,h2,h3⟩
 ·obtain ⟨o,es,ep,ho,r⟩ := hm
  exact ⟨o,es,ep,k _ o (Ne.symm hL) ho,r⟩
 ·refine (I.hok b u e).stay (fun c v hc q => k c v ?_ q) (fun _ q => q) fun _ _ q => q
  rcases hc with z | z
  ·rw [z]; exact nit b u e
  ·exact nit c _ z
theorem Inv.tok (I : Inv X pins σ H s) (t : Nat) : Inv X pins σ H { s with toks := t } := I.un (h' := s.heap) (t' := t) Un.refl I.hok
theorem Inv.kept {t' : Nat} (I : Inv X pins σ H s) (k : ∀ b u,s.heap.get? b = some u -> h'.get? b = some u) : Inv X pins σ H { s with heap := h',toks := t' } := I.un (Un.kept k) (I.hok.kept k)
theorem Inv.laid {a : Addr} {o : HO} {t' : Nat} (I : Inv X pins σ H s) (k : ∀ b u,s.heap.get? b = some u -> h'.get? b = some u) (hp : s.heap.objs.size <= a) (new : za2 X.prog X.w (upd H a o) h' a o) :
  Inv X pins σ (upd H a o) { s with heap := h',toks := t' } := I.un (Un.laid k hp (I.hok.fresh hp)) (I.hok.laid k hp new)
theorem Inv.write {x e : Addr} {o : HO} {t' : Nat} (I : Inv X pins σ H s) (mu : Mut (H x)) (he : e = x ∨ H e = some (.own x)) (k : ∀ b u,b ≠ e -> s.heap.get? b = some u -> h'.get? b = some u) (heo : ∃ u,h'.get? e = some u)
  (new : za2 X.prog X.w (upd H x o) h' x o) : Inv X pins σ (upd H x o) { s with heap := h',toks := t' } := I.un (Un.write mu he k heo) (I.hok.write mu he k heo new)
theorem Inv.pins_of {pins' : List (Addr × Obj)} (I : Inv X pins σ H s) (h : ∀ p ∈ pins',s.heap.get? p.1 = some p.2 /\ H p.1 = none /\ p.1 ≠ X.env.locals /\ p.1 ∉ X.fs /\ ∀ v,p.2.data ≠ .cell v) : Inv X pins' σ H s :=
 ⟨I.ok,I.os,I.bare,I.base,I.loc,I.cell,I.free,I.freeC,fun p hp => (List.mem_append.mp hp).elim (fun z => I.pin p (List.mem_append_left _ z)) (h p),I.hok,I.len⟩
theorem nodup_ix {N : List Str} (hN : N.Nodup) {i j : Nat} {x : Str} (a : N[i]? = some x) (b : N[j]? = some x) : i = j := by
 obtain ⟨h1,e1⟩ := List.getElem?_eq_some_iff.mp a
 obtain ⟨h2,e2⟩ := List.getElem?_eq_some_iff.mp b
 exact (List.getElem_inj hN).mp (e1.trans e2.symm)
theorem store_ok2 {M : Model} {A : Around} {E : Value -> Shared -> Prop} {i : Nat} {x : Str} {v : V} {u : Value} {Q : Unit -> Shared -> Prop} (I : Inv X pins σ H s) (hN : X.N.Nodup) (hi : X.N[i]? = some x) (hx : Loc X.env.scope x) (r : zaG v u)
  (h : ∀ s',Inv X pins (σ.set i (some v)) H s' -> (∃ a,Heap.SameBut a s.heap s'.heap /\ (a = X.env.locals ∨ X.env.cells.lookup x = some a)) -> Q () s') (hf : X.fn x = true ∨ X.env.scope.names.lookup x = some .local := by first | exact .inl rfl | exact .inr rfl | assumption) : wpAny M A (storeName X.env x u) Q E s := by
 obtain ⟨m,hn,hl⟩ := id I.loc
 have hcls : (X.env.scope.kind == .class || (X.env.scope.kind == .module && X.env.locals != X.env.globals)) = false := by rw [I.ok.kind]; rfl
 have hiσ : i < σ.length := by rw [I.len]; exact (List.getElem?_eq_some_iff.mp hi).1
 have cne := I.cne
 have tracked : ∀ {a : Addr} {h' : Heap},(∃ o,s.heap.get? a = some o /\ H a = none) -> Heap.SameBut a s.heap h' -> HOk X.prog X.w H h' := fun {a h'} ha hs b ob e => by
  obtain ⟨_,_,hfree⟩ := ha
  refine (I.hok b ob e).stay (fun c w' hc q => (hs.2 c ?_).trans q) (fun _ q => q) fun _ _ q => q
  rintro rfl
  rcases hc with rfl | hc
  ·rw [hfree] at e; cases e
  ·rw [hfree] at hc; cases hc
 rcases hx with hk | hk
 ·refine wpAny_storeName_local hk hn (fun h' hn' hs => ?_) hcls
  obtain ⟨oL,_,_,hoL,_⟩ := id hn
  refine h _ ⟨I.ok,I.os,I.bare,⟨fun b o e n hb hx => ?_,fun b o e n hb hx => ?_,I.base.free,fun b o e hx => ?_,I.base.tups,I.base.frzs,I.base.tbls⟩,⟨_,hn',fun j y v' e1 e2 e3 => ?_⟩,fun y c e => ?_,I.free,I.freeC,fun p hp => ?_,tracked ⟨oL,hoL,I.free⟩ hs,by simpa using I.len⟩ ⟨_,hs,.inl rfl⟩
  ·exact (hs.2 b (Nat.ne_of_lt (Nat.lt_of_lt_of_le (Heap.lt_size e) I.ok.above))).trans (I.base.keep b o e n hb hx)
  ·obtain ⟨sl,e1⟩ := I.base.slot b o e n hb hx
   exact ⟨sl,(hs.2 b (Nat.ne_of_lt (Nat.lt_of_lt_of_le (Heap.lt_size e) I.ok.above))).trans e1⟩
  ·obtain ⟨o',e1⟩ := I.base.there b o e hx
   exact ⟨o',(hs.2 b (Nat.ne_of_lt (Nat.lt_of_lt_of_le (Heap.lt_size e) I.ok.above))).trans e1⟩
  ·by_cases hj : j = i
   ·subst hj
    rw [hi] at e1; cases e1
    rw [List.getElem?_set_self hiσ] at e2
    cases e2
    exact ⟨u,r,.inl ⟨hk,by simp⟩⟩
   ·rw [List.getElem?_set_ne (Ne.symm hj)] at e2
    obtain ⟨u',r',q⟩ := hl j y v' e1 e2 e3
    refine ⟨u',r',?_⟩
    rcases q with ⟨k,e⟩ | ⟨k,c,e,z⟩
    ·refine .inl ⟨k,?_⟩
     have : y ≠ x := fun e => hj (nodup_ix hN e1 (e ▸ hi))
     simp [this,e]
    ·exact .inr ⟨k,c,e,z.sameBut hs (cne y c e)⟩
  ·obtain ⟨w',z⟩ := I.cell y c e
   exact ⟨w',z.sameBut hs (cne y c e)⟩
  ·obtain ⟨e,n,ne,nf,d⟩ := I.pin p hp
   exact ⟨(hs.2 p.1 ne).trans e,n,ne,nf,d⟩
 ·have hfn : X.fn x = true := by
   rcases hf with z | z
   ·exact z
   ·rw [z] at hk; cases hk
  obtain ⟨c,hc⟩ := I.ok.has x (.inl hk)
  obtain ⟨w',z⟩ := I.cell x c hc
  refine wpAny_storeName_cell I.ok.kind hk hc z (fun h' hc' hs => ?_)
  obtain ⟨oc,hoc,hocd⟩ := id z
  refine h { s with heap := h' } ⟨I.ok,I.os,I.bare,⟨fun b o e n hb hx => ?_,fun b o e n hb hx => ?_,I.base.free,fun b o e hx => ?_,I.base.tups,I.base.frzs,I.base.tbls⟩,⟨m,hn.sameBut hs (Ne.symm (cne x c hc)),fun j y v' e1 e2 e3 => ?_⟩,fun y c' e => ?_,I.free,I.freeC,fun p hp => ?_,tracked ⟨oc,hoc,I.freeC x c hc⟩ hs,by simpa using I.len⟩ ⟨c,hs,.inr hc⟩
  ·exact (hs.2 b (Nat.ne_of_lt (Nat.lt_of_lt_of_le (Heap.lt_size e) (I.ok.cab x c hfn hc)))).trans (I.base.keep b o e n hb hx)
  ·obtain ⟨sl,e1⟩ := I.base.slot b o e n hb hx
   exact ⟨sl,(hs.2 b (Nat.ne_of_lt (Nat.lt_of_lt_of_le (Heap.lt_size e) (I.ok.cab x c hfn hc)))).trans e1⟩
  ·obtain ⟨o',e1⟩ := I.base.there b o e hx
   exact ⟨o',(hs.2 b (Nat.ne_of_lt (Nat.lt_of_lt_of_le (Heap.lt_size e) (I.ok.cab x c hfn hc)))).trans e1⟩
  ·by_cases hj : j = i
   ·subst hj
    rw [hi] at e1; cases e1
    rw [List.getElem?_set_self hiσ] at e2
    cases e2
    exact ⟨u,r,.inr ⟨.inl hk,c,hc,hc'⟩⟩
   ·rw [List.getElem?_set_ne (Ne.symm hj)] at e2
    obtain ⟨u',r',q⟩ := hl j y v' e1 e2 e3
    refine ⟨u',r',?_⟩
    rcases q with q | ⟨k,c',e,z'⟩
    ·exact .inl q
    ·refine .inr ⟨k,c',e,z'.sameBut hs ?_⟩
     rintro rfl
     exact hj (nodup_ix hN e1 (I.ok.inj _ _ _ e hc ▸ hi))
  ·by_cases hcc : c' = c
   ·subst hcc; exact ⟨_,hc'⟩
   ·obtain ⟨w2,z2⟩ := I.cell y c' e
    exact ⟨w2,z2.sameBut hs hcc⟩
  ·obtain ⟨e,n,ne,nf,d⟩ := I.pin p hp
   refine ⟨(hs.2 p.1 ?_).trans e,n,ne,nf,d⟩
   intro q
   rw [q,hoc] at e
   have q' : oc = p.2 := Option.some.inj e
   exact d w' (by rw [<- q']; exact hocd)
theorem store_ok {M : Model} {A : Around} {E : Value -> Shared -> Prop} {i : Nat} {x : Str} {v : V} {u : Value} {Q : Unit -> Shared -> Prop} (I : Inv X pins σ H s) (hN : X.N.Nodup) (hi : X.N[i]? = some x) (hx : Loc X.env.scope x) (r : zaG v u)
  (h : ∀ s',Inv X pins (σ.set i (some v)) H s' -> Q () s') (hf : X.fn x = true ∨ X.env.scope.names.lookup x = some .local := by first | exact .inl rfl | exact .inr rfl | assumption) : wpAny M A (storeName X.env x u) Q E s :=
 store_ok2 I hN hi hx r (fun s' I' _ => h s' I') hf
theorem Inv.call' {s' : Shared} {ch : List Addr} (I : Inv X pins σ H s) (ho : s'.os = s.os) (u : Un (frs X.stack) ch H H' s.heap s'.heap) (hok : HOk X.prog X.w H' s'.heap) (hg : AllBare s'.gens)
  (hch : ∀ b ∈ ch,(b ∈ X.ex ∨ X.s₀.heap.objs.size <= b) /\ b ≠ X.env.locals /\ (∀ x c,X.env.cells.lookup x = some c -> c ≠ b) /\ ∀ p ∈ X.pn ++ pins,p.1 ≠ b) : Inv X pins σ H' s' := by
 obtain ⟨h',g',d',t',o'⟩ := s'
 have e : o' = s.os := ho
 subst e
 exact I.call (g' := g') (t' := t') (d' := d') u hok hg hch
end
abbrev XK := Value -> Option Addr -> Hp -> Prop
abbrev St := List (Option V)
abbrev VK := V -> Hp -> Prop
abbrev TE := St -> Hp -> VK -> Prop
abbrev TT := St -> Hp -> (Bool -> Hp -> Prop) -> Prop
abbrev TA := St -> Hp -> (List V -> Hp -> Prop) -> Prop
structure Ends where
 nx : St -> Hp -> Prop
 rt : VK
 bk : St -> Hp -> Prop := fun _ _ => False
 ct : St -> Hp -> Prop := fun _ _ => False
abbrev TS := Ends -> St -> Hp -> Prop
def EP (X : Cx) (pins : List (Addr × Obj)) (σ : St) (Q : VK) (u : Value) (s' : Shared) : Prop := ∃ v H',Inv X pins σ H' s' /\ zaG v u /\ Q v H'
def TP (X : Cx) (pins : List (Addr × Obj)) (σ : St) (Q : Bool -> Hp -> Prop) (b : Bool) (s' : Shared) : Prop := ∃ H',Inv X pins σ H' s' /\ Q b H'
def AP (X : Cx) (pins : List (Addr × Obj)) (σ : St) (Q : List V -> Hp -> Prop) (us : List Value) (s' : Shared) : Prop := ∃ vs H',Inv X pins σ H' s' /\ zav vs us /\ Q vs H'
def SP (X : Cx) (pins : List (Addr × Obj)) (D : Ends) (f : Flow) (s' : Shared) : Prop :=
 match f with
 | .next => ∃ σ' H',Inv X pins σ' H' s' /\ D.nx σ' H'
 | .brk => ∃ σ' H',Inv X pins σ' H' s' /\ D.bk σ' H'
 | .cont => ∃ σ' H',Inv X pins σ' H' s' /\ D.ct σ' H'
 | .ret u => ∃ v σ' H',Inv X pins σ' H' s' /\ zaG v u /\ D.rt v H'
def PE (X : Cx) (e : Expr) (t : TE) : Prop :=
 ∀ (pins : List (Addr × Obj)) (s : Shared) (σ : St) (H : Hp) (Q : VK),Inv X pins σ H s -> t σ H Q -> wpAny (model X.prog X.w) X.A (eval e X.env) (EP X pins σ Q) X.xe s
def PT (X : Cx) (e : Expr) (t : TT) : Prop :=
 ∀ (pins : List (Addr × Obj)) (s : Shared) (σ : St) (H : Hp) (Q : Bool -> Hp -> Prop),Inv X pins σ H s -> t σ H Q -> wpAny (model X.prog X.w) X.A (isTrue e X.env (eval e X.env)) (TP X pins σ Q) X.xe s
def PW (X : Cx) (e : Expr) (t : TT) : Prop :=
 ∀ (whole : Sem Value) (pins : List (Addr × Obj)) (s : Shared) (σ : St) (H : Hp) (Q : Bool -> Hp -> Prop),Inv X pins σ H s -> t σ H Q -> wpAny (model X.prog X.w) X.A (isTrue e X.env whole) (TP X pins σ Q) X.xe s
theorem PW.pt {X : Cx} {e : Expr} {t : TT} (h : PW X e t) : PT X e t := h _
def PA (X : Cx) (es : List Expr) (t : TA) : Prop :=
 ∀ (pos : Pos) (pins : List (Addr × Obj)) (s : Shared) (σ : St) (H : Hp) (Q : List V -> Hp -> Prop),Inv X pins σ H s -> t σ H Q -> wpAny (model X.prog X.w) X.A (spliced (backTo pos (starEach es X.env))) (AP X pins σ Q) X.xe s
def PS (X : Cx) (st : Stmt) (t : TS) : Prop :=
 ∀ (pins : List (Addr × Obj)) (s : Shared) (σ : St) (H : Hp) (D : Ends),Inv X pins σ H s -> t D σ H -> wpAny (model X.prog X.w) X.A (exec st X.env) (SP X pins D) X.xe s
def PSs (X : Cx) (st : List Stmt) (t : TS) : Prop :=
 ∀ (pins : List (Addr × Obj)) (s : Shared) (σ : St) (H : Hp) (D : Ends),Inv X pins σ H s -> t D σ H -> wpAny (model X.prog X.w) X.A (execs st X.env) (SP X pins D) X.xe s
theorem thn {α : Type} {t : Sem α} {Q Q' : α -> Shared -> Prop} {M : Model} {A : Around} {E : Value -> Shared -> Prop} {s : Shared} (h : wpAny M A t Q E s) (hQ : ∀ a s,Q a s -> Q' a s) : wpAny M A t Q' E s := wpAny_mono h hQ fun _ _ x => x
end L2
namespace L2
open PySem PySem.Spec PyProof.Rows
section
variable {X : Cx}
def tVar (i : Nat) : TE := fun σ H Q => ∃ v,σ[i]? = some (some v) /\ Q v H
def tC (v : V) : TE := fun _ H Q => Q v H
theorem pe_var {i : Nat} {x : Str} {pos : Pos} (hN : X.N[i]? = some x) (hv : Vis X.env.scope x) (hd : (x == ("__debug__" : Str)) = false := by decide) (hcd : (x == ("__classdict__" : Str)) = false := by decide) : PE X (.Name x pos) (tVar i) := by
 intro pins s σ H Q I h
 obtain ⟨v,e,h⟩ := h
 obtain ⟨m,hn,hl⟩ := I.loc
 obtain ⟨u,r,l⟩ := hl i x v hN e hv
 have fin : EP X pins σ Q u s := ⟨v,H,I,r,h⟩
 rcases l with ⟨hk,hm⟩ | ⟨hk,c,hc,hcell⟩
 ·exact wpAny_Name (wpAny_loadName_local I.ok.kind hk hn hm fin) hd
 ·rcases hk with hk | hk
  ·exact wpAny_Name (wpAny_loadName_cell I.ok.kind hk hc hcell fin) hd
  ·exact wpAny_Name (wpAny_loadName_free I.ok.kind hk hc hcell fin hcd) hd
theorem pe_int {i j pos} : PE X (.Constant (.int i) j pos) (tC (.int i)) := fun _ _ _ H _ I h => wpAny_Constant_int ⟨.int i,H,I.tok _,⟨_,rfl⟩,h⟩
theorem pe_bl {b j pos} : PE X (.Constant (.bool b) j pos) (tC (.bl b)) := fun _ _ _ H _ I h => Constant_bool ⟨.bl b,H,I,rfl,h⟩
theorem pe_non {j pos} : PE X (.Constant .none j pos) (tC .non) := fun _ _ _ H _ I h => Constant_none ⟨.non,H,I,rfl,h⟩
theorem pe_str {x j pos} : PE X (.Constant (.str x) j pos) (tC (.str x)) := fun _ _ _ H _ I h => Calls.Constant_str ⟨.str x,H,I.tok _,⟨_,rfl⟩,h⟩
def Gl (X : Cx) (x : Str) : Prop := X.env.kindOf x = some .globalImplicit
theorem ld_glob {E : Value -> Shared -> Prop} {pins : List (Addr × Obj)} {s : Shared} {σ : St} {H : Hp} {x : Str} {u : Value} {pos : Pos} {Q : Value -> Shared -> Prop} (I : Inv X pins σ H s) (hg : Gl X x) (hm : X.mg x = some u) (h : Q u s)
  (hd : (x == ("__debug__" : Str)) = false := by decide) : wpAny (model X.prog X.w) X.A (eval (.Name x pos) X.env) Q E s :=
 Calls.Name_function_global I.ok.kind hg (Calls.loadGlobal_global (by rw [I.ok.glob]; exact I.mod.glob.keeps I.bk) hm h) hd
theorem ld_blt {E : Value -> Shared -> Prop} {pins : List (Addr × Obj)} {s : Shared} {σ : St} {H : Hp} {x : Str} {u : Value} {pos : Pos} {Q : Value -> Shared -> Prop} (I : Inv X pins σ H s) (hg : Gl X x) (hm : X.mg x = none) (hv : bootBuiltins x = some u) (h : Q u s)
  (hn : x ≠ "__name__" := by decide) (hd : (x == ("__debug__" : Str)) = false := by decide) : wpAny (model X.prog X.w) X.A (eval (.Name x pos) X.env) Q E s := by
 obtain ⟨mb,h1,h2⟩ := I.mod.blt
 exact Calls.Name_function_global I.ok.kind hg (Calls.loadGlobal_builtin (by rw [I.ok.glob]; exact I.mod.glob.keeps I.bk) hm (by rw [I.ok.blt]; exact h1.keeps I.bk) ((h2 x hn).trans hv) h) hd
theorem pe_glob {x : Str} {v : V} {u : Value} {pos : Pos} (hg : Gl X x) (hm : X.mg x = some u) (r : zaG v u) (hd : (x == ("__debug__" : Str)) = false := by decide) : PE X (.Name x pos) (tC v) :=
 fun _ _ _ H _ I h => ld_glob I hg hm ⟨v,H,I,r,h⟩ hd
theorem pe_bltn {x : Str} {v : V} {u : Value} {pos : Pos} (hg : Gl X x) (hm : X.mg x = none) (hv : bootBuiltins x = some u) (r : zaG v u) (hn : x ≠ "__name__" := by decide) (hd : (x == ("__debug__" : Str)) = false := by decide) : PE X (.Name x pos) (tC v) :=
 fun _ _ _ H _ I h => ld_blt I hg hm hv ⟨v,H,I,r,h⟩ hn hd
variable {a b : Expr} {ta tb : TE} {pos : Pos}
def tB (t : TE) : TT := fun σ H Q => t σ H fun x H1 => ∃ c,x = .bl c /\ Q c H1
variable {tA tB' : TT} {rest : List Expr}
def tAnd (t u : TT) : TT := fun σ H Q => t σ H fun c H1 => if c = true then u σ H1 Q else Q false H1
def tOr (t u : TT) : TT := fun σ H Q => t σ H fun c H1 => if c = true then Q true H1 else u σ H1 Q
def tNot (t : TT) : TT := fun σ H Q => t σ H fun c H1 => Q (!c) H1
theorem pw_and1 (ha : PT X a tA) : PW X (.BoolOp .And [a] pos) tA := by
 intro wh pins s σ H Q I h
 refine isTrue_and (thn (ha pins s σ H Q I h) fun c s1 e => ?_)
 cases c with
 | true => exact isTrue_and_nil e
 | false => exact e
theorem pw_or1 (ha : PT X a tA) : PW X (.BoolOp .Or [a] pos) tA := by
 intro wh pins s σ H Q I h
 refine isTrue_or (thn (ha pins s σ H Q I h) fun c s1 e => ?_)
 cases c with
 | false => exact isTrue_or_nil e
 | true => exact e
theorem pw_and (ha : PT X a tA) (hb : PW X (.BoolOp .And (b :: rest) pos) tB') : PW X (.BoolOp .And (a :: b :: rest) pos) (tAnd tA tB') := by
 intro wh pins s σ H Q I h
 refine isTrue_and (thn (ha pins s σ H _ I h) fun c s1 ⟨H1,I1,q1⟩ => ?_)
 cases c with
 | true => exact hb wh pins s1 σ H1 Q I1 q1
 | false => exact ⟨H1,I1,q1⟩
theorem pw_or (ha : PT X a tA) (hb : PW X (.BoolOp .Or (b :: rest) pos) tB') : PW X (.BoolOp .Or (a :: b :: rest) pos) (tOr tA tB') := by
 intro wh pins s σ H Q I h
 refine isTrue_or (thn (ha pins s σ H _ I h) fun c s1 ⟨H1,I1,q1⟩ => ?_)
 cases c with
 | true => exact ⟨H1,I1,q1⟩
 | false => exact hb wh pins s1 σ H1 Q I1 q1
theorem pt_not (ha : PT X a tA) : PT X (.UnaryOp .Not a pos) (tNot tA) := by
 intro pins s σ H Q I h
 exact isTrue_not (ha pins s σ H (fun c H1 => Q (!c) H1) I h)
end
end L2
namespace L2
open PySem PySem.Spec PyProof.Rows
def SqL (K : PySem.W.Frag) (H : Hp) (a : Addr) (xs : List V) : Prop :=
 Rd H a (.lst xs) ∨
  ∃ (o : Obj) (its : Array Value) (n : Nat),K.lookup a = some o /\ o.cls = .type "list" /\ o.dict = none /\ o.data = .seq its n /\ its.size <= sizeLine /\ zav xs its.toList
def SqT (K : PySem.W.Frag) (H : Hp) (a : Addr) (xs : List V) : Prop :=
 Rd H a (.tup xs) ∨
  ∃ (o : Obj) (its : Array Value) (n : Nat),K.lookup a = some o /\ o.cls = .type "tuple" /\ o.data = .seq its n /\ its.size <= sizeLine /\ zav xs its.toList
def absV : Value -> Option V
 | .none => some .non
 | .bool b => some (.bl b)
 | .int i _ => some (.int i)
 | .str x _ => some (.str x)
 | .bytes b _ => some (.byt b)
 | .float b _ => some (.flt b)
 | .ref a => some (.ref a)
 | .type n => some (.ty n)
 | _ => none
theorem zaG.abs {x : V} {u : Value} (r : zaG x u) : absV u = some x := by
 cases x with
 | non => cases r; rfl
 | bl _ => cases r; rfl
 | int _ => obtain ⟨t,rfl⟩ := r; rfl
 | str _ => obtain ⟨t,rfl⟩ := r; rfl
 | byt _ => obtain ⟨t,rfl⟩ := r; rfl
 | flt _ => obtain ⟨t,rfl⟩ := r; rfl
 | ref _ => cases r; rfl
 | ty _ => cases r; rfl
theorem zaG.inj {x y : V} {u : Value} (r : zaG x u) (q : zaG y u) : x = y := Option.some.inj (r.abs.symm.trans q.abs)
theorem zav.inj : ∀ {xs ys : List V} {us : List Value},zav xs us -> zav ys us -> xs = ys
 | _,_,_,.nil,.nil => rfl
 | _,_,_,.cons r t,.cons r' t' => by rw [r.inj r',zav.inj t t']
section
variable {X : Cx} {pins : List (Addr × Obj)} {σ : St} {H : Hp} {s : Shared} {a : Addr} {xs ys : List V}
theorem SqL.of {K : PySem.W.Frag} (h : H a = some (.lst xs)) : SqL K H a xs := .inl (.inl h)
theorem SqT.of {K : PySem.W.Frag} (h : H a = some (.tup xs)) : SqT K H a xs := .inl (.inl h)
theorem Inv.list (I : Inv X pins σ H s) (h : SqL X.K H a xs) : ∃ its : List Value,zav xs its /\ PlainL s.heap a its.toArray /\ xs.length <= sizeLine := by
 rcases h with h | ⟨o,its,n,hk,hc,hd,hs,hz,r⟩
 ·obtain ⟨z,its,n,r,e⟩ := h.ok I.hok
  exact ⟨its,r,⟨_,n,e,rfl,rfl,rfl⟩,z⟩
 ·refine ⟨its.toList,r,⟨o,n,I.kIn a o hk,hc,hd,by simpa using hs⟩,?_⟩
  have e := r.length
  simp only [Array.length_toList] at e
  omega
theorem Inv.tuple (I : Inv X pins σ H s) (h : SqT X.K H a xs) : ∃ its : List Value,zav xs its /\ IsTup s.heap a its.toArray /\ xs.length <= sizeLine := by
 rcases h with h | ⟨o,its,n,hk,hc,hs,hz,r⟩
 ·obtain ⟨z,its,r,p⟩ := h.ok I.hok
  exact ⟨its,r,p,z⟩
 ·refine ⟨its.toList,r,⟨o,I.kIn a o hk,hc,n,by simpa using hs⟩,?_⟩
  have e := r.length
  simp only [Array.length_toList] at e
  omega
theorem Inv.list_inj (I : Inv X pins σ H s) (h : SqL X.K H a xs) (h' : SqL X.K H a ys) : xs = ys := by
 obtain ⟨its,r,⟨o,n,e,_,_,d⟩,_⟩ := I.list h
 obtain ⟨its',r',⟨o',n',e',_,_,d'⟩,_⟩ := I.list h'
 rw [e] at e'; cases e'
 rw [d] at d'
 injection d' with d1 _
 have : its = its' := by simpa using congrArg Array.toList d1
 subst this
 exact r.inj r'
theorem Inv.tuple_inj (I : Inv X pins σ H s) (h : SqT X.K H a xs) (h' : SqT X.K H a ys) : xs = ys := by
 obtain ⟨its,r,⟨o,e,_,n,d⟩,_⟩ := I.tuple h
 obtain ⟨its',r',⟨o',e',_,n',d'⟩,_⟩ := I.tuple h'
 rw [e] at e'; cases e'
 rw [d] at d'
 injection d' with d1 _
 have : its = its' := by simpa using congrArg Array.toList d1
 subst this
 exact r.inj r'
end
abbrev Cx.wish (X : Cx) (E : Value -> Shared -> Prop) : Cx := { X with xe := E }
abbrev Cx.nox (X : Cx) : Cx := X.wish fun _ _ => False
theorem Cx.Ok.wish {X : Cx} (ok : X.Ok) (E : Value -> Shared -> Prop) : (X.wish E).Ok :=
 ⟨ok.mod,ok.kind,ok.glob,ok.blt,ok.above,ok.inj,ok.has,ok.cab,ok.hd,ok.frames,ok.stk,ok.exf,ok.bs,ok.bsz,ok.noex,ok.exfs,ok.funs,ok.frf⟩
theorem Cx.Ok.unwish {X : Cx} {E : Value -> Shared -> Prop} (ok : (X.wish E).Ok) : X.Ok :=
 ⟨ok.mod,ok.kind,ok.glob,ok.blt,ok.above,ok.inj,ok.has,ok.cab,ok.hd,ok.frames,ok.stk,ok.exf,ok.bs,ok.bsz,ok.noex,ok.exfs,ok.funs,ok.frf⟩
section
variable {X : Cx} {pins : List (Addr × Obj)} {σ : St} {H : Hp} {s : Shared} {E : Value -> Shared -> Prop}
theorem Inv.wish (I : Inv X pins σ H s) (E : Value -> Shared -> Prop) : Inv (X.wish E) pins σ H s := ⟨I.ok.wish E,I.os,I.bare,I.base,I.loc,I.cell,I.free,I.freeC,I.pin,I.hok,I.len⟩
theorem Inv.unwish (I : Inv (X.wish E) pins σ H s) : Inv X pins σ H s := ⟨I.ok.unwish,I.os,I.bare,I.base,I.loc,I.cell,I.free,I.freeC,I.pin,I.hok,I.len⟩
theorem SP.unwish {D : Ends} {f : Flow} {s' : Shared} (h : SP (X.wish E) pins D f s') : SP X pins D f s' := by
 cases f with
 | next => obtain ⟨σ',H',I,q⟩ := h; exact ⟨σ',H',I.unwish,q⟩
 | brk => obtain ⟨σ',H',I,q⟩ := h; exact ⟨σ',H',I.unwish,q⟩
 | cont => obtain ⟨σ',H',I,q⟩ := h; exact ⟨σ',H',I.unwish,q⟩
 | ret u => obtain ⟨v,σ',H',I,r,q⟩ := h; exact ⟨v,σ',H',I.unwish,r,q⟩
theorem PSs.nox {st : List Stmt} {t : TS} (h : PSs X.nox st t) : PSs X st t := fun pins s σ H D I hw =>
 wpAny_mono (h pins s σ H D (I.wish _) hw) (fun _ _ q => q.unwish) fun _ _ z => False.elim z
end
section
variable {X : Cx} {st : Stmt} {rest : List Stmt} {t u : TS} {e : Expr} {te : TE} {pos : Pos}
def tNext : TS := fun D σ H => D.nx σ H
def tSeq (t u : TS) : TS := fun D σ H => t { D with nx := u D } σ H
theorem pss_nil : PSs X [] tNext := fun _ _ σ H _ I h => wpAny_execs_nil ⟨σ,H,I,h⟩
theorem pss_cons (h1 : PS X st t) (h2 : PSs X rest u) : PSs X (st :: rest) (tSeq t u) := by
 intro pins s σ H D I h
 refine wpAny_execs_cons (thn (h1 pins s σ H { D with nx := u D } I h) fun f s1 q => ?_)
 cases f with
 | next =>
  obtain ⟨σ',H',I',q⟩ := q
  exact h2 pins s1 σ' H' D I' q
 | ret v => exact q
 | brk => exact q
 | cont => exact q
theorem pss_one (h1 : PS X st t) : PSs X [st] t := by
 intro pins s σ H D I h
 refine wpAny_execs_cons (thn (h1 pins s σ H D I h) fun f s1 q => ?_)
 cases f with
 | next => exact wpAny_execs_nil q
 | ret v => exact q
 | brk => exact q
 | cont => exact q
theorem Inv.quiet {pins : List (Addr × Obj)} {σ : St} {H : Hp} {s : Shared} (I : Inv X pins σ H s) : interactive X.env = false := by simp [interactive,I.ok.kind]
def tDrop (te : TE) : TS := fun D σ H => te σ H fun _ H1 => D.nx σ H1
theorem ps_expr (he : PE X e te) (hs : swapsWith e none pos.line X.env = pure false := by rfl) : PS X (.Expr e pos) (tDrop te) := by
 intro pins s σ H D I h
 exact wpAny_Expr_any (thn (he pins s σ H _ I h) fun v s1 ⟨x,H1,I1,r1,q1⟩ => ⟨σ,H1,I1,q1⟩) I.quiet hs
def tRet (te : TE) : TS := fun D σ H => te σ H D.rt
theorem ps_ret (he : PE X e te) : PS X (.Return (some e) pos) (tRet te) := by
 intro pins s σ H D I h
 exact wpAny_Return_some (thn (he pins s σ H _ I h) fun v s1 ⟨x,H1,I1,r1,q1⟩ => ⟨x,σ,H1,I1,r1,q1⟩)
def tRetN : TS := fun D _ H => D.rt .non H
theorem ps_retN : PS X (.Return none pos) tRetN := fun _ _ σ H _ I h => wpAny_Return_none ⟨.non,σ,H,I,rfl,h⟩
def tIfS (c : TT) (t u : TS) : TS := fun D σ H => c σ H fun b H1 => if b = true then t D σ H1 else u D σ H1
theorem ps_if {c : Expr} {a b : List Stmt} {tc : TT} (hc : PT X c tc) (ha : PSs X a t) (hb : PSs X b u) : PS X (.If c a b pos) (tIfS tc t u) := by
 intro pins s σ H D I h
 refine wpAny_If (thn (hc pins s σ H _ I h) fun d s1 ⟨H1,I1,q1⟩ => ?_)
 cases d with
 | true => exact ha pins s1 σ H1 D I1 q1
 | false => exact hb pins s1 σ H1 D I1 q1
def tNever : TS := fun _ _ _ => False
theorem ps_never : PS X st tNever := fun _ _ _ _ _ _ h => h.elim
end
abbrev TG := V -> St -> Hp -> (St -> Hp -> Prop) -> Prop
abbrev TGs := List V -> St -> Hp -> (St -> Hp -> Prop) -> Prop
def PG (X : Cx) (target : Expr) (t : TG) : Prop :=
 ∀ (pins : List (Addr × Obj)) (s : Shared) (σ : St) (H : Hp) (v : V) (u : Value) (Q : St -> Hp -> Prop),Inv X pins σ H s -> zaG v u -> t v σ H Q ->
  wpAny (model X.prog X.w) X.A (assign target X.env u) (fun _ s' => ∃ σ' H',Inv X pins σ' H' s' /\ Q σ' H') X.xe s
def PGs (X : Cx) (ts : List Expr) (t : TGs) : Prop :=
 ∀ (pins : List (Addr × Obj)) (s : Shared) (σ : St) (H : Hp) (vs : List V) (us : List Value) (Q : St -> Hp -> Prop),Inv X pins σ H s -> zav vs us -> t vs σ H Q ->
  wpAny (model X.prog X.w) X.A (assignInOrder ((assignEach ts X.env).map (·.2)) us) (fun _ s' => ∃ σ' H',Inv X pins σ' H' s' /\ Q σ' H') X.xe s
abbrev TSet := V -> V -> V -> Hp -> (Hp -> Prop) -> Prop
def PSet (X : Cx) (t : TSet) : Prop :=
 ∀ (pins : List (Addr × Obj)) (s : Shared) (σ : St) (H : Hp) (o i v : V) (ov iv u : Value) (Q : Hp -> Prop),Inv X pins σ H s -> zaG o ov -> zaG i iv -> zaG v u -> t o i v H Q ->
  wpAny (model X.prog X.w) X.A (setItem ov iv u) (fun _ s' => ∃ H',Inv X pins σ H' s' /\ Q H') X.xe s
section
variable {X : Cx} {pos : Pos}
def gName (i : Nat) : TG := fun v σ H Q => Q (σ.set i (some v)) H
theorem pg_name {i : Nat} {x : Str} (hN : X.N.Nodup) (hi : X.N[i]? = some x) (hx : Loc X.env.scope x) (hf : X.fn x = true ∨ X.env.scope.names.lookup x = some .local := by first | exact .inl rfl | exact .inr rfl | assumption) : PG X (.Name x pos) (gName i) := by
 intro pins s σ H v u Q I r h
 exact wpAny_assign_Name (store_ok I hN hi hx r (fun s' I' => ⟨_,H,I',h⟩) hf)
def gNil : TGs := fun vs σ H Q => vs = [] /\ Q σ H
def gCons (t : TG) (u : TGs) : TGs := fun vs σ H Q => ∃ v r,vs = v :: r /\ t v σ H fun σ' H' => u r σ' H' Q
theorem pgs_nil : PGs X [] gNil := by
 intro pins s σ H vs us Q I r h
 obtain ⟨e,h⟩ := h
 subst e
 cases r
 exact assignInOrder_nil ⟨σ,H,I,h⟩
theorem pgs_cons {e : Expr} {es : List Expr} {t : TG} {u : TGs} (h1 : PG X e t) (h2 : PGs X es u)
  (hs : (assignEach (e :: es) X.env).map (·.2) = assign e X.env :: (assignEach es X.env).map (·.2) := by rfl) : PGs X (e :: es) (gCons t u) := by
 intro pins s σ H vs us Q I r h
 obtain ⟨v,vr,e1,h⟩ := h
 subst e1
 cases r with
 | cons r rr =>
  rw [hs]
  refine assignInOrder_cons (thn (h1 pins s σ H _ _ _ I r h) fun _ s1 ⟨σ1,H1,I1,q1⟩ => ?_)
  exact h2 pins s1 σ1 H1 _ _ Q I1 rr q1
def gTup (K : PySem.W.Frag) (n : Nat) (t : TGs) : TG := fun v σ H Q => ∃ a xs,v = .ref a /\ SqT K H a xs /\ xs.length = n /\ t xs σ H Q
theorem pg_tup {es : List Expr} {k : Nat} {t : TGs} {n : Nat} (hc : X.calm = true) (h : PGs X es t)
  (hn : (assignEach es X.env).length = n := by rfl) (hst : (assignEach es X.env).findIdx? (·.1) = none := by rfl) : PG X (.Tuple es k pos) (gTup X.K n t) := by
 intro pins s σ H v u Q I r hw
 obtain ⟨a,xs,e1,hq,hl,hw⟩ := hw
 subst e1
 cases r
 obtain ⟨its,rv,ht,hz⟩ := I.tuple hq
 refine assign_Tuple_tuple (I.ok.hd hc) ht (by simp [hn,<- hl,rv.length]) hst fun h' hx => ?_
 have I1 : Inv X pins σ H { s with heap := h' } := I.kept (t' := s.toks) fun b o e => hx b o (Nat.ne_of_lt (Heap.lt_size e)) e
 exact h pins _ σ H xs _ Q I1 (by simpa using rv) hw
def gSub (to ti : TE) (t : TSet) : TG := fun v σ H Q => to σ H fun o H1 => ti σ H1 fun i H2 => t o i v H2 fun H3 => Q σ H3
theorem pg_sub {o i : Expr} {to ti : TE} {t : TSet} (ho : PE X o to) (hi : PE X i ti) (hs : PSet X t)
  (ha : ∀ v,assign (.Subscript o i pos) X.env v = (do
   let ov <- holding [v] (eval o X.env)
   let iv <- holding [v,ov] (eval i X.env)
   standAt pos
   holding [v,ov,iv] (setItem ov iv v)
   release [v,ov,iv] []) := by intro _; rfl) : PG X (.Subscript o i pos) (gSub to ti t) := by
 intro pins s σ H v u Q I r h
 rw [ha]
 refine wpAny_bind (wpAny_holding (thn (ho pins s σ H _ I h) fun ov s1 ⟨x,H1,I1,r1,q1⟩ => ?_))
 refine wpAny_bind (wpAny_holding (thn (hi pins s1 σ H1 _ I1 q1) fun iv s2 ⟨y,H2,I2,r2,q2⟩ => ?_))
 refine wpAny_bind (wpAny_standAt (wpAny_bind (wpAny_holding (thn (hs pins s2 σ H2 x y v ov iv u _ I2 r1 r2 r q2) fun _ s3 ⟨H3,I3,q3⟩ => ?_))))
 exact wpAny_release ⟨σ,H3,I3,q3⟩
def tAsg (te : TE) (g : TG) : TS := fun D σ H => te σ H fun x H1 => g x σ H1 D.nx
theorem ps_asg {tg e : Expr} {te : TE} {g : TG} (he : PE X e te) (hg : PG X tg g) (hs : swapsWithSole [tg] e pos.line X.env = pure false := by rfl) (hw : swappedStores [tg] e X.env = pure none := by rfl)
  (h1 : (assignEach [tg] X.env).map (·.2) = [assign tg X.env] := by rfl) : PS X (.Assign [tg] e pos) (tAsg te g) := by
 intro pins s σ H D I h
 refine wpAny_Assign_stores (thn (he pins s σ H _ I h) fun v s1 ⟨x,H1,I1,r1,q1⟩ => ?_) hs hw
 rw [h1]
 exact thn (hg pins s1 σ H1 x v _ I1 r1 q1) fun _ s2 q => q
theorem ps_set {i : Nat} {x : Str} {e : Expr} {te : TE} {pos' : Pos} (hN : X.N.Nodup) (hi : X.N[i]? = some x) (hx : Loc X.env.scope x) (he : PE X e te) (hs : swapsWith e (some (.Name x pos')) pos.line X.env = pure false := by rfl) (hf : X.fn x = true ∨ X.env.scope.names.lookup x = some .local := by first | exact .inl rfl | exact .inr rfl | assumption) :
  PS X (.Assign [.Name x pos'] e pos) (tAsg te (gName i)) := by
 intro pins s σ H D I h
 refine wpAny_Assign_Name (thn (he pins s σ H _ I h) fun v s1 ⟨y,H1,I1,r1,q1⟩ => ?_) hs
 exact store_ok I1 hN hi hx r1 (fun s2 I2 => ⟨_,H1,I2,q1⟩) hf
end
section
variable {X : Cx} {pos : Pos}
end
structure It where
 go : Nat -> Hp -> Prop
 yld : Nat -> Hp -> V -> Hp -> Prop
 stop : Nat -> Hp -> Prop
def FpOk (X : Cx) (pins : List (Addr × Obj)) (H : Hp) (b : Addr) : Prop :=
 H b = none /\ b ≠ X.env.locals /\ b ∉ X.fs /\ (b ∈ X.ex ∨ X.s₀.heap.objs.size <= b) /\ (∀ x c,X.env.cells.lookup x = some c -> c ≠ b) /\ ∀ p ∈ X.pn ++ pins,p.1 ≠ b
theorem Inv.fpOk {X : Cx} {pins : List (Addr × Obj)} {σ : St} {H H' : Hp} {s : Shared} {b : Addr} (I : Inv X pins σ H s) (hb : s.heap.objs.size <= b) (hn : H' b = none) : FpOk X pins H' b := by
 refine ⟨hn,Nat.ne_of_gt (Nat.lt_of_lt_of_le I.lt hb),I.nofs hb,.inr (Nat.le_trans I.sz hb),fun x c e z => ?_,fun p hp z => ?_⟩
 ·obtain ⟨v,q⟩ := I.cell x c e
  exact absurd (Nat.lt_of_lt_of_le q.lt (by rw [z]; exact hb)) (Nat.lt_irrefl _)
 ·exact absurd (Nat.lt_of_lt_of_le (Heap.lt_size (I.pin p hp).1) (by rw [z]; exact hb)) (Nat.lt_irrefl _)
structure Turn (P : Program) (w : World) (K : PySem.W.Frag) (tg : Expr) (J : It) (fp : List Addr) (it : Addr) (tn : Nat -> Heap -> Prop) : Prop where
 mem : it ∈ fp
 obj : ∀ i h,tn i h -> ∀ b ∈ fp,∃ o,h.get? b = some o /\ ∀ v,o.data ≠ .cell v
 keep : ∀ i h h',tn i h -> (∀ b ∈ fp,∀ o,h.get? b = some o -> h'.get? b = some o) -> tn i h'
 item : ∀ (X : Cx),X.prog = P -> X.w = w -> X.K = K -> X.calm = true -> ∀ (i : Nat) (pins : List (Addr × Obj)) (s : Shared) (σ : St) (H : Hp) (E : Value -> Shared -> Prop),Inv X pins σ H s -> (∀ b ∈ fp,FpOk X pins H b) -> tn i s.heap -> J.go i H ->
  wpAny (model P w) X.A (pyNext (.ref it)) (fun r s1 => ∃ u,r = some u /\
   wpAny (model P w) X.A (letOwnedTupleGo tg (.ref it) u) (fun _ s2 => ∃ x H',Inv X pins σ H' s2 /\ zaG x u /\ J.yld i H x H' /\ tn (i + 1) s2.heap /\ ∀ b ∈ fp,H' b = none) E s1) E s
 done : ∀ (X : Cx),X.prog = P -> X.w = w -> X.K = K -> X.calm = true -> ∀ (i : Nat) (pins : List (Addr × Obj)) (s : Shared) (σ : St) (H : Hp) (E : Value -> Shared -> Prop),Inv X pins σ H s -> (∀ b ∈ fp,FpOk X pins H b) -> tn i s.heap -> J.stop i H ->
  wpAny (model P w) X.A (pyNext (.ref it)) (fun r s1 => r = none /\ Inv X pins σ H s1) E s
 self : ∀ (A : Around) (i : Nat) (s : Shared) (Q : Value -> Shared -> Prop) (E : Value -> Shared -> Prop),tn i s.heap -> Q (.ref it) s -> wpAny (model P w) A (pyIter (.ref it)) Q E s
abbrev TI := St -> Hp -> (It -> Hp -> Prop) -> Prop
def PIE (X : Cx) (pins : List (Addr × Obj)) (σ : St) (tg : Expr) (R : It -> Hp -> Prop) (itv : Value) (s2 : Shared) : Prop :=
 ∃ (it : Addr) (fp : List Addr) (tn : Nat -> Heap -> Prop) (J : It) (H' : Hp),itv = .ref it /\ Inv X pins σ H' s2 /\ Turn X.prog X.w X.K tg J fp it tn /\ tn 0 s2.heap /\ (∀ b ∈ fp,FpOk X pins H' b) /\ R J H'
def PI (X : Cx) (tg iter : Expr) (wi : TI) : Prop :=
 ∀ (pins : List (Addr × Obj)) (s : Shared) (σ : St) (H : Hp) (R : It -> Hp -> Prop),Inv X pins σ H s -> wi σ H R ->
  wpAny (model X.prog X.w) X.A (eval iter X.env) (fun v s1 => wpAny (model X.prog X.w) X.A (pyIter v) (PIE X pins σ tg R) X.xe s1) X.xe s
theorem go_of {M : Model} {A : Around} {E : Value -> Shared -> Prop} {s : Shared} {tg : Expr} {it : Addr} {u : Value} {o : Obj} {n : String} {vs : Array Value} {Q : Unit -> Shared -> Prop} (ho : s.heap.get? it = some o) (hc : o.cls = .type n) (hd : o.data = .fields vs)
  (hn : ["enumerate","zip","dict_itemiterator","dict_reverseitemiterator","odict_iterator","itertools.zip_longest","itertools.pairwise"].contains n = false) (hQ : Q () s) : wpAny M A (letOwnedTupleGo tg (.ref it) u) Q E s := by
 unfold letOwnedTupleGo
 cases tg <;> first
  | exact wpAny_pure hQ
  | (cases u <;> first
    | exact wpAny_pure hQ
    | (refine wpAny_bind (wpAny_load ho ?_)
       rw [hc,hd]
       show wpAny M A (if (["enumerate","zip","dict_itemiterator","dict_reverseitemiterator","odict_iterator","itertools.zip_longest","itertools.pairwise"].contains n && vs[0]? == some (rawInt _)) = true then _ else _) Q E s
       rw [if_neg (by intro h; rw [hn,Bool.false_and] at h; cases h)]
       exact wpAny_pure hQ))
def Itl (K : PySem.W.Frag) (a : Addr) : It :=
 ⟨fun i H => ∃ xs x,SqL K H a xs /\ xs[i]? = some x,fun i H x H' => H' = H /\ ∀ xs,SqL K H a xs -> xs[i]? = some x,fun i H => ∃ xs,SqL K H a xs /\ xs.length <= i⟩
def Itt (K : PySem.W.Frag) (a : Addr) : It :=
 ⟨fun i H => ∃ xs x,SqT K H a xs /\ xs[i]? = some x,fun i H x H' => H' = H /\ ∀ xs,SqT K H a xs -> xs[i]? = some x,fun i H => ∃ xs,SqT K H a xs /\ xs.length <= i⟩
def Itr (lo : Int) (n : Nat) : It := ⟨fun i _ => i < n,fun i H x H' => H' = H /\ x = .int (lo + i),fun i _ => n <= i⟩
theorem turn_list {P : Program} {w : World} {K : PySem.W.Frag} {tg : Expr} (a it : Addr) : Turn P w K tg (Itl K a) [it] it (fun i h => h.IsListIter it a i) where
 mem := by simp
 obj := fun i h st b hb => by
  have e : b = it := by simpa using hb
  subst e
  obtain ⟨o,e,c,d⟩ := st
  exact ⟨o,e,fun v z => by rw [d] at z; cases z⟩
 keep := fun i h h' st k => st.at fun o e => k it (by simp) o e
 item := by
  intro X hP hw hK hc i pins s σ H E I hf st hg
  subst hP hw hK
  obtain ⟨xs,x,hq,hx⟩ := hg
  obtain ⟨its,rv,p,hz⟩ := I.list hq
  obtain ⟨u,hu,ru⟩ := rv.get hx
  obtain ⟨f0,f1,f2,f3,f4,f5⟩ := hf it (by simp)
  refine wpAny_pyNext_list_item st p.isList (x := u) (by simpa using hu) fun h' st' sb => ?_
  have I1 : Inv X pins σ H { s with heap := h' } := I.turned (t' := s.toks) (fun b o hb e => (sb.2 b hb).trans e) f0 f1 f3 f4 f5
  obtain ⟨o,e,c,d⟩ := id st'
  exact ⟨u,rfl,go_of (s := { s with heap := h' }) e c d (by decide) ⟨x,H,I1,ru,⟨rfl,fun ys hy => by rw [I.list_inj hy hq]; exact hx⟩,st',fun b hb => (hf b hb).1⟩⟩
 done := by
  intro X hP hw hK hc i pins s σ H E I hf st hg
  subst hP hw hK
  obtain ⟨xs,hq,hx⟩ := hg
  obtain ⟨its,rv,p,hz⟩ := I.list hq
  obtain ⟨f0,f1,f2,f3,f4,f5⟩ := hf it (by simp)
  have hl := rv.length
  exact wpAny_pyNext_list_end (I.ok.hd hc) st p.isList (by simp; omega) fun h' eb => ⟨rfl,I.turned (t' := s.toks) (fun b o hb e => eb b o hb e) f0 f1 f3 f4 f5⟩
 self := fun _ _ _ _ _ st h => wpAny_pyIter_listiter st h
theorem turn_tuple {P : Program} {w : World} {K : PySem.W.Frag} {tg : Expr} (a it : Addr) : Turn P w K tg (Itt K a) [it] it (fun i h => h.IsTupleIter it a i) where
 mem := by simp
 obj := fun i h st b hb => by
  have e : b = it := by simpa using hb
  subst e
  obtain ⟨o,e,c,d⟩ := st
  exact ⟨o,e,fun v z => by rw [d] at z; cases z⟩
 keep := fun i h h' st k => st.at fun o e => k it (by simp) o e
 item := by
  intro X hP hw hK hc i pins s σ H E I hf st hg
  subst hP hw hK
  obtain ⟨xs,x,hq,hx⟩ := hg
  obtain ⟨its,rv,p,hz⟩ := I.tuple hq
  obtain ⟨u,hu,ru⟩ := rv.get hx
  obtain ⟨f0,f1,f2,f3,f4,f5⟩ := hf it (by simp)
  refine wpAny_pyNext_tuple_item st (show s.heap.IsTuple a its.toArray from p) (x := u) (by simpa using hu) fun h' st' sb => ?_
  have I1 : Inv X pins σ H { s with heap := h' } := I.turned (t' := s.toks) (fun b o hb e => (sb.2 b hb).trans e) f0 f1 f3 f4 f5
  obtain ⟨o,e,c,d⟩ := id st'
  exact ⟨u,rfl,go_of (s := { s with heap := h' }) e c d (by decide) ⟨x,H,I1,ru,⟨rfl,fun ys hy => by rw [I.tuple_inj hy hq]; exact hx⟩,st',fun b hb => (hf b hb).1⟩⟩
 done := by
  intro X hP hw hK hc i pins s σ H E I hf st hg
  subst hP hw hK
  obtain ⟨xs,hq,hx⟩ := hg
  obtain ⟨its,rv,p,hz⟩ := I.tuple hq
  obtain ⟨f0,f1,f2,f3,f4,f5⟩ := hf it (by simp)
  have hl := rv.length
  exact wpAny_pyNext_tuple_end (I.ok.hd hc) st (show s.heap.IsTuple a its.toArray from p) (by simp; omega) fun h' eb => ⟨rfl,I.turned (t' := s.toks) (fun b o hb e => eb b o hb e) f0 f1 f3 f4 f5⟩
 self := fun _ _ _ _ _ st h => wpAny_pyIter_tupleiter st h
theorem turn_range {P : Program} {w : World} {K : PySem.W.Frag} {tg : Expr} (it : Addr) (lo : Int) (n : Nat) : Turn P w K tg (Itr lo n) [it] it (fun i h => IsRangeIter h it (lo + (i : Nat) * 1) ((n : Int) - (i : Nat)) 1) where
 mem := by simp
 obj := fun i h st b hb => by
  have e : b = it := by simpa using hb
  subst e
  exact ⟨_,st,fun v z => by
   have z' : Data.fields _ = Data.cell v := z
   cases z'⟩
 keep := fun i h h' st k => k it (by simp) _ st
 item := by
  intro X hP hw hK hc i pins s σ H E I hf st hg
  subst hP hw hK
  obtain ⟨f0,f1,f2,f3,f4,f5⟩ := hf it (by simp)
  have W := Walks.range (prog := X.prog) (w := X.w) (I.ok.hd hc) it lo 1 n
  refine W.item i s _ _ hg st fun v h' tk hv st' kk => ?_
  obtain ⟨t,rfl⟩ := hv
  have I1 : Inv X pins σ H { s with heap := h',toks := tk } := I.turned (fun b o hb e => kk b o (by simpa using hb) e) f0 f1 f3 f4 f5
  refine ⟨_,rfl,go_of (s := { s with heap := h',toks := tk }) (n := "range_iterator") st' rfl rfl (by decide) ⟨.int (lo + i),H,I1,⟨t,?_⟩,⟨rfl,rfl⟩,st',fun b hb => (hf b hb).1⟩⟩
  rw [Int.mul_one]
 done := by
  intro X hP hw hK hc i pins s σ H E I hf st hg
  subst hP hw hK
  obtain ⟨f0,f1,f2,f3,f4,f5⟩ := hf it (by simp)
  exact wpAny_pyNext_range_end (I.ok.hd hc) st (by have : n <= i := hg; omega) fun h' eb => ⟨rfl,I.turned (t' := s.toks) (fun b o hb e => eb b o hb e) f0 f1 f3 f4 f5⟩
 self := fun _ _ _ _ _ st h => wpAny_pyIter_rangeiter st h
end L2
namespace L2
open PySem PySem.Spec PyProof.Rows
section
variable {X : Cx} {tg : Expr}
theorem range_it {pins : List (Addr × Obj)} {σ : St} {H : Hp} {s : Shared} {R : It -> Hp -> Prop} {E : Value -> Shared -> Prop} {lo hi : Int} {t u v : Tok} {tk : Nat} (I : Inv X pins σ H s) (h1 : -(2 ^ 62) <= lo) (h2 : lo < 2 ^ 62) (h3 : -(2 ^ 62) <= hi) (h4 : hi < 2 ^ 62)
  (q : R (Itr lo (hi - lo).toNat) H) : wpAny (model X.prog X.w) X.A (pyIter (.ref s.heap.objs.size)) (PIE X pins σ tg R) E { s with heap := s.heap.push { cls := .type "range",data := .fields #[.int lo t,.int hi u,.int 1 v] },toks := tk } := by
 refine wpAny_pyIter_range (IsRange.new ..) (small_one h1 h2 h3 h4) ?_
 have I1 : Inv X pins σ H { s with heap := s.heap.push { cls := .type "range",data := .fields #[.int lo t,.int hi u,.int 1 v] },toks := tk } := I.kept fun b o e => Heap.get?_push_of_some _ e
 refine ⟨(s.heap.push { cls := .type "range",data := .fields #[.int lo t,.int hi u,.int 1 v] }).objs.size,[(s.heap.push { cls := .type "range",data := .fields #[.int lo t,.int hi u,.int 1 v] }).objs.size],_,_,H,rfl,
  I1.kept (t' := tk) fun b o e => Heap.get?_push_of_some _ e,turn_range _ lo (hi - lo).toNat,?_,fun b hb => ?_,q⟩
 ·have e1 : lo + ((0 : Nat) : Int) * 1 = lo := by simp
  have e2 : (((hi - lo).toNat : Nat) : Int) - ((0 : Nat) : Int) = Builtin.Range.rangeSize lo hi 1 := by rw [rangeSize_one]; split <;> omega
  show IsRangeIter _ _ (lo + ((0 : Nat) : Int) * 1) ((((hi - lo).toNat : Nat) : Int) - ((0 : Nat) : Int)) 1
  rw [e1,e2]
  exact Heap.get?_push_size _ rfl
 ·have e : b = (s.heap.push { cls := .type "range",data := .fields #[.int lo t,.int hi u,.int 1 v] }).objs.size := by simpa using hb
  subst e
  exact I1.fpOk (Nat.le_refl _) (I1.hok.fresh (Nat.le_refl _))
def iRng1 (ta : TA) : TI := fun σ H R => ta σ H fun vs H1 => ∃ j : Int,vs = [.int j] /\ -(2 ^ 62) <= j /\ j < 2 ^ 62 /\ R (Itr 0 j.toNat) H1
theorem pi_range1 {a : Expr} {ta : TA} {p pos : Pos} (hg : Gl X "range") (hm : X.mg "range" = none) (ha : PA X [a] ta) (hs : starEach [a] X.env = [(false,eval a X.env)] := by rfl) : PI X tg (.Call (.Name "range" p) [a] [] pos) (iRng1 ta) := by
 intro pins s σ H R I h
 refine Call_ (ld_blt I hg hm boot_range (PyProof.Rows.callWith_type1 (thn (ha pos pins s σ H _ I h) fun us s1 ⟨vs,H1,I1,r1,q1⟩ => ?_) hs rfl))
 obtain ⟨j,e,q1,q2,q⟩ := q1
 subst e
 cases r1 with
 | cons r rr =>
  cases rr
  obtain ⟨t,rfl⟩ := r
  exact call_range_1 (range_it I1 (by omega) (by omega) q1 q2 (by simpa using q))
def tFor (wi : TI) (g : TG) (tb : TS) : TS := fun D σ H => wi σ H fun J H1 => ∃ W : Nat -> Nat -> St -> Hp -> Prop,(∃ m,W 0 m σ H1) /\ ∀ i m σ H,W i m σ H ->
 (J.stop i H /\ D.nx σ H) ∨ (J.go i H /\ ∃ N : St -> Hp -> Prop,(∀ σ' H',N σ' H' -> ∃ m',m' < m /\ W (i + 1) m' σ' H') /\ ∀ x H',J.yld i H x H' -> g x σ H' fun σ2 H2 => tb { D with nx := N,ct := N,bk := D.nx } σ2 H2)
def pinsAt (fp : List Addr) (h : Heap) : List (Addr × Obj) := fp.filterMap fun b => (h.get? b).map fun o => (b,o)
theorem mem_pinsAt {fp : List Addr} {h : Heap} {b : Addr} {o : Obj} (hb : b ∈ fp) (e : h.get? b = some o) : (b,o) ∈ pinsAt fp h := List.mem_filterMap.mpr ⟨b,hb,by rw [e]; rfl⟩
theorem of_pinsAt {fp : List Addr} {h : Heap} {p : Addr × Obj} (hp : p ∈ pinsAt fp h) : p.1 ∈ fp /\ h.get? p.1 = some p.2 := by
 obtain ⟨b,hb,e⟩ := List.mem_filterMap.mp hp
 cases q : h.get? b with
 | none => rw [q] at e; cases e
 | some o =>
  rw [q] at e
  have e' : (b,o) = p := Option.some.inj e
  subst e'
  exact ⟨hb,q⟩
theorem Inv.pinned {pins : List (Addr × Obj)} {σ : St} {H : Hp} {s : Shared} {fp : List Addr} (I : Inv X pins σ H s) (hf : ∀ b ∈ fp,FpOk X pins H b) (ho : ∀ b ∈ fp,∃ o,s.heap.get? b = some o /\ ∀ v,o.data ≠ .cell v) : Inv X (pins ++ pinsAt fp s.heap) σ H s :=
 I.pins_of fun p hp => (List.mem_append.mp hp).elim (fun z => I.pin p (List.mem_append_right _ z)) fun z => by
  obtain ⟨hb,e⟩ := of_pinsAt z
  obtain ⟨f0,f1,f2,_⟩ := hf p.1 hb
  obtain ⟨o,e',d⟩ := ho p.1 hb
  rw [e] at e'; cases e'
  exact ⟨e,f0,f1,f2,d⟩
theorem Inv.unpinned {pins pl : List (Addr × Obj)} {σ : St} {H : Hp} {s : Shared} (I : Inv X (pins ++ pl) σ H s) : Inv X pins σ H s := I.pins_of fun p hp => I.pin p (List.mem_append_right _ (List.mem_append_left _ hp))
theorem ps_for {iter : Expr} {body : List Stmt} {wi : TI} {g : TG} {tb : TS} {pos : Pos} (hp : PassesOwn (model X.prog X.w) X.A X.env X.xe) (hc : X.calm = true) (hi : PI X tg iter wi) (hg : PG X tg g) (hb : PSs X body tb)
  (hs : ∀ x,foldedSetIterable iter X.env x = pure x := by intro _; rfl) : PS X (.For tg iter body [] pos) (tFor wi g tb) := by
 intro pins s σ H D I h
 refine wpAny_For (thn (hi pins s σ H _ I h) fun v s1 h1 => thn h1 fun itv s2 h2 => ?_) hs
 obtain ⟨it,fp,tn,J,H2,e,I2,T,st2,f2,W,⟨m0,w0⟩,turn⟩ := h2
 subst e
 have stat : ∀ {H' : Hp},(∀ b ∈ fp,H' b = none) -> ∀ b ∈ fp,FpOk X pins H' b := fun hn b hb => ⟨hn b hb,(f2 b hb).2⟩
 refine codeAny_forLoop_any (fun n s' => ∃ i σ' H',Inv X pins σ' H' s' /\ tn i s'.heap /\ (∀ b ∈ fp,H' b = none) /\ W i n σ' H') ?_ m0 ⟨0,σ,H2,I2,st2,fun b hb => (f2 b hb).1,w0⟩
 rintro n s3 ⟨i,σ3,H3,I3,st3,fr3,w3⟩
 rcases turn i n σ3 H3 w3 with ⟨stop,qn⟩ | ⟨go,N,hN,step⟩
 ·refine wpAny_passesOwn hp (thn (T.done X rfl rfl rfl hc i pins s3 σ3 H3 X.xe I3 (stat fr3) st3 stop) fun r s4 ⟨hr,I4⟩ => ?_)
  subst hr
  exact wpAny_execs_nil ⟨σ3,H3,I4,qn⟩
 ·refine wpAny_passesOwn hp (thn (T.item X rfl rfl rfl hc i pins s3 σ3 H3 X.xe I3 (stat fr3) st3 go) fun r s4 ⟨u,hr,h4⟩ => ?_)
  subst hr
  refine wpAny_passesOwn hp (thn h4 fun _ s5 ⟨x,H5,I5,r5,y5,st5,fr5⟩ => ?_)
  have I5' := I5.pinned (stat fr5) (T.obj _ _ st5)
  refine wpAny_passesOwn hp (thn (hg _ s5 σ3 H5 x u _ I5' r5 (step x H5 y5)) fun _ s6 ⟨σ6,H6,I6,q6⟩ => ?_)
  refine wpAny_passesOwn hp (thn (hb _ s6 σ6 H6 _ I6 q6) fun f s7 q7 => ?_)
  have again : ∀ {σ7 : St} {H7 : Hp},Inv X (pins ++ pinsAt fp s5.heap) σ7 H7 s7 -> N σ7 H7 -> ∃ m,m < n /\ ∃ i σ' H',Inv X pins σ' H' s7 /\ tn i s7.heap /\ (∀ b ∈ fp,H' b = none) /\ W i m σ' H' := fun {σ7 H7} I7 n7 => by
   obtain ⟨m',hm,w7⟩ := hN σ7 H7 n7
   refine ⟨m',hm,i + 1,σ7,H7,I7.unpinned,T.keep _ _ _ st5 fun b hb o e => (I7.pin (b,o) (List.mem_append_right _ (List.mem_append_right _ (mem_pinsAt hb e)))).1,fun b hb => ?_,w7⟩
   obtain ⟨o,e,d⟩ := T.obj _ _ st5 b hb
   exact (I7.pin (b,o) (List.mem_append_right _ (List.mem_append_right _ (mem_pinsAt hb e)))).2.1
  cases f with
  | next => obtain ⟨σ7,H7,I7,n7⟩ := q7; exact again I7 n7
  | cont => obtain ⟨σ7,H7,I7,n7⟩ := q7; exact again I7 n7
  | brk => obtain ⟨σ7,H7,I7,q7⟩ := q7; exact ⟨σ7,H7,I7.unpinned,q7⟩
  | ret v => obtain ⟨x7,σ7,H7,I7,r7,q7⟩ := q7; exact ⟨x7,σ7,H7,I7.unpinned,r7,q7⟩
end
end L2
namespace L2
open PySem PySem.Spec PyProof.Rows
abbrev R2 := V -> V -> Hp -> VK -> Prop
def OpR (X : Cx) (f : Value -> Value -> Sem Value) (r : R2) : Prop :=
 ∀ (pins : List (Addr × Obj)) (s : Shared) (σ : St) (H : Hp) (x y : V) (v u : Value) (Q : VK),Inv X pins σ H s -> zaG x v -> zaG y u -> r x y H Q ->
  wpAny (model X.prog X.w) X.A (f v u) (EP X pins σ Q) X.xe s
def zbG (X : Cx) (f : Value) (r : List V -> Hp -> VK -> Prop) : Prop :=
 ∀ (pins : List (Addr × Obj)) (s : Shared) (σ : St) (H : Hp) (xs : List V) (us : List Value) (Q : VK),Inv X pins σ H s -> zav xs us -> r xs H Q ->
  wpAny (model X.prog X.w) X.A (call f us) (EP X pins σ Q) X.xe s
def TruR (X : Cx) (r : V -> Hp -> (Bool -> Hp -> Prop) -> Prop) : Prop :=
 ∀ (pins : List (Addr × Obj)) (s : Shared) (σ : St) (H : Hp) (x : V) (v : Value) (Q : Bool -> Hp -> Prop),Inv X pins σ H s -> zaG x v -> r x H Q ->
  wpAny (model X.prog X.w) X.A (truthy v) (TP X pins σ Q) X.xe s
def tOp (r : R2) (ta tb : TE) : TE := fun σ H Q => ta σ H fun x H1 => tb σ H1 fun y H2 => r x y H2 Q
def rI (C : Int -> Int -> Prop) (g : Int -> Int -> V) : R2 := fun x y H Q => ∃ i j,x = .int i /\ y = .int j /\ C i j /\ Q (g i j) H
def rI0 (g : Int -> Int -> V) : R2 := fun x y H Q => ∃ i j,x = .int i /\ y = .int j /\ Q (g i j) H
section
variable {X : Cx} {a b c : Expr} {ta tb tc : TE} {pos : Pos}
theorem binT (ha : PE X a ta) (hb : PE X b tb) {pins : List (Addr × Obj)} {s : Shared} {σ : St} {H : Hp} {R : V -> V -> Hp -> Prop} (I : Inv X pins σ H s)
  (h : ta σ H fun x H1 => tb σ H1 fun y H2 => R x y H2) {Q : Value -> Shared -> Prop} {f : Value -> Value -> Sem Value}
  (hf : ∀ v u s2 x y H2,Inv X pins σ H2 s2 -> zaG x v -> zaG y u -> R x y H2 -> wpAny (model X.prog X.w) X.A (f v u) Q X.xe s2) :
  wpAny (model X.prog X.w) X.A (eval a X.env) (fun v s₁ => wpAny (model X.prog X.w) X.A (eval b X.env) (fun u s₂ => wpAny (model X.prog X.w) X.A (f v u) Q X.xe s₂) X.xe s₁) X.xe s := by
 refine thn (ha pins s σ H _ I h) fun v s1 ⟨x,H1,I1,r1,q1⟩ => ?_
 refine thn (hb pins s1 σ H1 _ I1 q1) fun u s2 ⟨y,H2,I2,r2,q2⟩ => ?_
 exact hf v u s2 x y H2 I2 r1 r2 q2
theorem pe_op {op : Operator} {r : R2} (ho : OpR X (binaryOp op) r) (ha : PE X a ta) (hb : PE X b tb) : PE X (.BinOp a op b pos) (tOp r ta tb) := by
 intro pins s σ H Q I h
 exact wpAny_BinOp (binT ha hb I h fun v u s2 x y H2 I2 rx ry q => ho pins s2 σ H2 x y v u Q I2 rx ry q)
theorem opI {f : Value -> Value -> Sem Value} {C : Int -> Int -> Prop} {g : Int -> Int -> Int}
  (rule : ∀ (i j : Int) (t u : Tok) (s : Shared) (Q : Value -> Shared -> Prop) (E : Value -> Shared -> Prop),C i j -> Q (.int (g i j) s.toks) { s with toks := s.toks + 1 } -> wpAny (model X.prog X.w) X.A (f (.int i t) (.int j u)) Q E s) :
  OpR X f (rI C fun i j => .int (g i j)) := by
 intro pins s σ H x y v u Q I rx ry h
 obtain ⟨i,j,rfl,rfl,hc,q⟩ := h
 obtain ⟨t,rfl⟩ := rx
 obtain ⟨t',rfl⟩ := ry
 exact rule i j t t' s _ _ hc ⟨.int (g i j),H,I.tok _,⟨_,rfl⟩,q⟩
theorem opI0 {f : Value -> Value -> Sem Value} {g : Int -> Int -> Int}
  (rule : ∀ (i j : Int) (t u : Tok) (s : Shared) (Q : Value -> Shared -> Prop) (E : Value -> Shared -> Prop),Q (.int (g i j) s.toks) { s with toks := s.toks + 1 } -> wpAny (model X.prog X.w) X.A (f (.int i t) (.int j u)) Q E s) :
  OpR X f (rI0 fun i j => .int (g i j)) := by
 intro pins s σ H x y v u Q I rx ry h
 obtain ⟨i,j,rfl,rfl,q⟩ := h
 obtain ⟨t,rfl⟩ := rx
 obtain ⟨t',rfl⟩ := ry
 exact rule i j t t' s _ _ ⟨.int (g i j),H,I.tok _,⟨_,rfl⟩,q⟩
theorem opB0 {f : Value -> Value -> Sem Value} {g : Int -> Int -> Bool}
  (rule : ∀ (i j : Int) (t u : Tok) (s : Shared) (Q : Value -> Shared -> Prop) (E : Value -> Shared -> Prop),Q (.bool (g i j)) s -> wpAny (model X.prog X.w) X.A (f (.int i t) (.int j u)) Q E s) :
  OpR X f (rI0 fun i j => .bl (g i j)) := by
 intro pins s σ H x y v u Q I rx ry h
 obtain ⟨i,j,rfl,rfl,q⟩ := h
 obtain ⟨t,rfl⟩ := rx
 obtain ⟨t',rfl⟩ := ry
 exact rule i j t t' s _ _ ⟨.bl (g i j),H,I,rfl,q⟩
def CDiv (i j : Int) : Prop := 0 < j /\ j < 1073741824
def CPow (i j : Int) : Prop := 0 <= j /\ j <= 1000000 /\ i.natAbs < 2 ^ 64
def CMul (i j : Int) : Prop := (-(2 ^ 64) < i /\ i < 2 ^ 64) ∨ (-(2 ^ 64) < j /\ j < 2 ^ 64)
theorem CMul.ok {i j : Int} (h : CMul i j) : IntMulOk i j := by
 rcases h with ⟨h1,h2⟩ | ⟨h1,h2⟩
 ·exact .of_left (intBits_le_64 h1 h2)
 ·exact .of_right (intBits_le_64 h1 h2)
theorem op_add : OpR X (binaryOp .Add) (rI0 fun i j => .int (i + j)) := opI0 fun _ _ _ _ _ _ _ q => add_int q
theorem op_sub : OpR X (binaryOp .Sub) (rI0 fun i j => .int (i - j)) := opI0 fun _ _ _ _ _ _ _ q => sub_int q
theorem op_mul : OpR X (binaryOp .Mult) (rI CMul fun i j => .int (i * j)) := opI fun _ _ _ _ _ _ _ hc q => mul_int q hc.ok
theorem op_fdiv : OpR X (binaryOp .FloorDiv) (rI CDiv fun i j => .int (i / j)) := opI fun i j _ _ _ _ _ hc q => by
 have h1 : (0 : Int) < j := hc.1
 have h2 : j < 1073741824 := hc.2
 exact floordiv_int (by omega) (by rw [Int.fdiv_eq_ediv_of_nonneg i (by omega)]; exact q) (.inl (PyProof.noPylong_small (by omega)))
theorem op_mod : OpR X (binaryOp .Mod) (rI (fun _ j => 0 < j) fun i j => .int (i % j)) := opI fun i j _ _ _ _ _ hc q => by
 have h1 : (0 : Int) < j := hc
 exact mod_int' (by omega) (by rw [Int.fmod_eq_emod_of_nonneg i (by omega)]; exact q)
theorem op_pow : OpR X (binaryOp .Pow) (rI CPow fun i j => .int (i ^ j.toNat)) := opI fun _ _ _ _ _ _ _ hc q => pow_int_small hc.1 hc.2.1 hc.2.2 q
end
section
variable {X : Cx} {a b c : Expr} {ta tb tc : TE} {pos : Pos}
theorem fin_bl {pins : List (Addr × Obj)} {σ : St} {H : Hp} {s : Shared} {Q : VK} {k k' : Bool} (I : Inv X pins σ H s) (q : Q (.bl k) H) (e : k = k') : EP X pins σ Q (.bool k') s := by
 subst e
 exact ⟨.bl k,H,I,rfl,q⟩
theorem op_lt : OpR X (compareOp .Lt) (rI0 fun i j => .bl (decide (i < j))) := opB0 fun _ _ _ _ _ _ _ q => lt_int q
theorem op_gt : OpR X (compareOp .Gt) (rI0 fun i j => .bl (decide (j < i))) := opB0 fun _ _ _ _ _ _ _ q => gt_int q
theorem op_ge : OpR X (compareOp .GtE) (rI0 fun i j => .bl (decide (j <= i))) := opB0 fun _ _ _ _ _ _ _ q => ge_int q
theorem op_notN : OpR X (compareOp .IsNot) (fun x y H Q => y = .non /\ Q (.bl (!decide (x = .non))) H) := by
 intro pins s σ H x y v u Q I rx ry h
 obtain ⟨rfl,q⟩ := h
 cases ry
 refine isnot_none_gen (fin_bl I q ?_)
 cases x <;> first
  | (cases rx; rfl)
  | (obtain ⟨t,rfl⟩ := rx; rfl)
theorem OpR.or {f : Value -> Value -> Sem Value} {r r' : R2} (h : OpR X f r) (h' : OpR X f r') : OpR X f (fun x y H Q => r x y H Q ∨ r' x y H Q) := by
 intro pins s σ H x y v u Q I rx ry q
 rcases q with q | q
 ·exact h pins s σ H x y v u Q I rx ry q
 ·exact h' pins s σ H x y v u Q I rx ry q
theorem nomark (b : Expr) {op : CmpOp} (h : op ≠ .In := by decide) (h2 : op ≠ .NotIn := by decide) : behindInMarks op b = false := by
 have e1 : (op == CmpOp.In) = false := by cases op <;> first | rfl | exact absurd rfl h
 have e2 : (op == CmpOp.NotIn) = false := by cases op <;> first | rfl | exact absurd rfl h2
 cases b <;> simp [behindInMarks,e1,e2]
theorem pe_cmpR {op : CmpOp} {r : R2} (ho : OpR X (compareOp op) r) (ha : PE X a ta) (hb : PE X b tb) (hm : behindInMarks op b = false) : PE X (.Compare a [op] [b] pos) (tOp r ta tb) := by
 intro pins s σ H Q I h
 exact wpAny_Compare1 (binT ha hb I h fun v u s2 x y H2 I2 rx ry q => ho pins s2 σ H2 x y v u Q I2 rx ry q) hm
def tTest (t : TE) : TT := fun σ H Q => t σ H fun x H' => ∃ k,x = .bl k /\ Q k H'
theorem pt_cmpR {op : CmpOp} {r : R2} (ho : OpR X (compareOp op) r) (ha : PE X a ta) (hb : PE X b tb) (hm : behindInMarks op b = false) : PT X (.Compare a [op] [b] pos) (tTest (tOp r ta tb)) := by
 intro pins s σ H Q I h
 refine wpAny_isTrue_Compare1 (thn (ha pins s σ H _ I h) fun v s1 ⟨x,H1,I1,r1,q1⟩ => thn (hb pins s1 σ H1 _ I1 q1) fun u s2 ⟨y,H2,I2,r2,q2⟩ =>
  thn (ho pins s2 σ H2 x y v u _ I2 r1 r2 q2) fun c s3 ⟨z,H3,I3,r3,k,e,q3⟩ => ?_) hm
 subst e
 cases r3
 exact wpAny_truthy_bool ⟨H3,I3,q3⟩
def TruV (K : PySem.W.Frag) (x : V) (H : Hp) (k : Bool) : Prop :=
 match x with
 | .non => k = false
 | .bl b => k = b
 | .int i => k = (i != 0)
 | .str y => y.length <= sizeLine /\ k = ((y.length : Int) != 0)
 | .byt y => y.size <= sizeLine /\ k = ((y.size : Int) != 0)
 | .ref p => (∃ xs,SqL K H p xs /\ k = !xs.isEmpty) ∨ (∃ xs,SqT K H p xs /\ k = !xs.isEmpty) ∨ ∃ kvs,H p = some (.dK kvs) /\ k = !kvs.isEmpty
 | _ => False
theorem isEmpty_kv {κ : Type} {kvs : List (κ × V)} {vs : List (κ × Value)} (r : KV kvs vs) : (!vs.isEmpty) = !kvs.isEmpty := by
 cases r <;> rfl
theorem isEmpty_of {xs : List V} {its : List Value} (r : zav xs its) : (!its.toArray.isEmpty) = !xs.isEmpty := by
 cases r <;> simp
theorem line63 : (sizeLine : Nat) < 2 ^ 63 := by rw [sizeLine_eq]; decide
theorem tru_ok : TruR X (fun x H Q => ∃ k,TruV X.K x H k /\ Q k H) := by
 intro pins s σ H x v Q I rx h
 obtain ⟨k,e,q⟩ := h
 have hl := line63
 have hs : sizeLine = 16777216 := sizeLine_eq
 cases x with
 | non =>
  cases rx
  have e' : k = false := e
  subst e'
  exact truthy_none ⟨H,I,q⟩
 | bl b =>
  cases rx
  have e' : k = b := e
  subst e'
  exact wpAny_truthy_bool ⟨H,I,q⟩
 | int i =>
  obtain ⟨t,rfl⟩ := rx
  have e' : k = (i != 0) := e
  subst e'
  exact PySem.P.truthy_int ⟨H,I,q⟩
 | str y =>
  obtain ⟨t,rfl⟩ := rx
  obtain ⟨hy,e'⟩ : y.length <= sizeLine /\ k = ((y.length : Int) != 0) := e
  subst e'
  exact PySem.P.truthy_str (by omega) ⟨H,I.tok _,q⟩
 | byt y =>
  obtain ⟨t,rfl⟩ := rx
  obtain ⟨hy,e'⟩ : y.size <= sizeLine /\ k = ((y.size : Int) != 0) := e
  subst e'
  exact PySem.W.truthy_bytes (by omega) ⟨H,I.tok _,q⟩
 | ref p =>
  cases rx
  have e' : (∃ xs,SqL X.K H p xs /\ k = !xs.isEmpty) ∨ (∃ xs,SqT X.K H p xs /\ k = !xs.isEmpty) ∨ ∃ kvs,H p = some (.dK kvs) /\ k = !kvs.isEmpty := e
  rcases e' with ⟨xs,hx,e'⟩ | ⟨xs,hx,e'⟩ | ⟨kvs,hx,e'⟩
  ·subst e'
   obtain ⟨its,r,pl,hz⟩ := I.list hx
   have hlen := r.length
   exact wpAny_truthy_list pl.isList (by simp only [List.size_toArray]; omega) ⟨H,I.tok _,by rw [isEmpty_of r]; exact q⟩
  ·subst e'
   obtain ⟨its,r,pl,hz⟩ := I.tuple hx
   have hlen := r.length
   exact truthy_tuple pl (by simp only [List.size_toArray]; omega) ⟨H,I.tok _,by rw [isEmpty_of r]; exact q⟩
  ·subst e'
   obtain ⟨hz,hS,vs,r,m⟩ : kvs.length <= sizeLine /\ (p == sysModules) = false /\ ∃ vs,KV kvs vs /\ s.heap.DictOf (zau X.prog X.w) p vs := I.hok p _ hx
   have hlen : kvs.length = vs.length := Paired.length r
   exact wpAny_truthy_dict hS m (by omega) ⟨H,I.tok _,by rw [isEmpty_kv r]; exact q⟩
 | _ => exact (show False from e).elim
theorem pt_truth (ha : PE X a ta) (he : ∀ whole,isTrue a X.env whole = (do let v <- whole; standAt a.pos; holding [v] (truthy v))) :
  PT X a (fun σ H Q => ta σ H fun x H' => ∃ k,TruV X.K x H' k /\ Q k H') := by
 intro pins s σ H Q I h
 exact isTrue_plain (thn (ha pins s σ H _ I h) fun v s1 ⟨x,H1,I1,r1,q1⟩ => tru_ok pins s1 σ H1 x v Q I1 r1 q1) (he _)
theorem vals1 {x : V} {us : List Value} (r : zav [x] us) : ∃ u,us = [u] /\ zaG x u := by
 cases r with
 | cons r1 r2 => cases r2; exact ⟨_,rfl,r1⟩
theorem vals2 {x y : V} {us : List Value} (r : zav [x,y] us) : ∃ u w',us = [u,w'] /\ zaG x u /\ zaG y w' := by
 cases r with
 | cons r1 r2 =>
  cases r2 with
  | cons r3 r4 => cases r4; exact ⟨_,_,rfl,r1,r3⟩
theorem call_max2 (hc : X.calm = true) : zbG X (.builtin "max") (fun xs H Q => ∃ i j,xs = [.int i,.int j] /\ Q (.int (if j > i then j else i)) H) := by
 intro pins s σ H xs us Q I r h
 obtain ⟨i,j,rfl,q⟩ := h
 obtain ⟨u,w',rfl,⟨t,rfl⟩,⟨t',rfl⟩⟩ := vals2 r
 refine max_two_ints (I.ok.hd hc) fun h' tk k => ⟨_,H,I.kept k,?_,q⟩
 by_cases hj : j > i
 ·rw [if_pos hj,if_pos hj]; exact ⟨_,rfl⟩
 ·rw [if_neg hj,if_neg hj]; exact ⟨_,rfl⟩
theorem call_int1 : zbG X (.type "int") (fun xs H Q => (∃ i,xs = [.int i] /\ Q (.int i) H) ∨ ∃ k,xs = [.bl k] /\ Q (.int (if k then 1 else 0)) H) := by
 intro pins s σ H xs us Q I r h
 rcases h with ⟨i,rfl,q⟩ | ⟨k,rfl,q⟩
 ·obtain ⟨u,rfl,t,rfl⟩ := vals1 r
  exact call_int_int ⟨.int i,H,I,⟨_,rfl⟩,q⟩
 ·obtain ⟨u,rfl,r1⟩ := vals1 r
  cases r1
  exact call_int_bool ⟨.int (if k then 1 else 0),H,I.tok _,⟨_,rfl⟩,q⟩
end
end L2
namespace L2
open PySem PySem.Spec PyProof.Rows
structure ObjM (h : Heap) (x dx C : Addr) (mA : Str -> Option Value) : Prop where
 obj : h.get? x = some (PySem.W.instObj C dx)
 ns : h.Ns1 dx mA
 ne : dx ≠ x
theorem lookIn_ns {h : Heap} {dx : Addr} {mA : Str -> Option Value} (n : h.Ns1 dx mA) : ∃ od,h.get? dx = some od /\ ∀ name,PySem.W.lookIn name od = some (mA name) := by
 obtain ⟨o,es,ep,ho,hd,hk,_,hm⟩ := n
 refine ⟨o,ho,fun name => ?_⟩
 have e := hm name
 unfold nsFind findBy at e
 rw [<- Array.find?_toList] at e
 unfold PySem.W.lookIn
 rw [hd]
 dsimp only
 split
 ·rename_i y q
  rw [q] at e
  exact congrArg some e
 ·rename_i q
  rw [q] at e
  have a : es.toList.any (·.refKey) = false := by
   rw [List.any_eq_false]
   intro y hy
   obtain ⟨z,t,hkey⟩ := hk y (Array.mem_toList_iff.mp hy)
   simp [DictEntry.refKey,hkey]
  have a' : ¬ es.toList.any (·.refKey) = true := by rw [a]; exact Bool.false_ne_true
  rw [if_neg a']
  exact congrArg some e
theorem ObjM.look {h : Heap} {x dx C : Addr} {mA : Str -> Option Value} (I : ObjM h x dx C mA) : ∃ od,PySem.W.InstAt h x (PySem.W.instObj C dx) C (some od) /\ ∀ name,PySem.W.lookIn name od = some (mA name) :=
 let ⟨od,ho,hl⟩ := lookIn_ns I.ns
 ⟨od,⟨I.obj,rfl,rfl,ho⟩,hl⟩
section
variable {prog : Program} {w : World} {A : Around} {E : Value -> Shared -> Prop} {s : Shared} {K : PySem.W.Frag} {x dx C f : Addr} {mA : Str -> Option Value} {name : Str} {v : Value}
theorem get_map {expr : Bool} {Q : Value -> Shared -> Prop} (X : K.In s.heap) (I : ObjM s.heap x dx C mA) (hg : PySem.W.plainGet K C name = true) (hh : PySem.W.hasDictIn K C = true)
  (ha : PySem.W.findIn K (.ref C) name = some none) (hv : mA name = some v) (hv' : PySem.W.handedIn v = true) (h : Q v { s with toks := s.toks + 1 }) :
  wpAny (model prog w) A (getAttr (.ref x) name expr) Q E s := by
 obtain ⟨od,J,hl⟩ := I.look
 exact PySem.W.get_value X J (PySem.W.plainGet_of hg).1 (PySem.W.findObj_own hh ha rfl (by rw [hl,hv])) hv' h
theorem get_meth {pl : Sem Bool} {Q : Value × List Value -> Shared -> Prop} (X : K.In s.heap) (I : ObjM s.heap x dx C mA) (hg : PySem.W.plainGet K C name = true)
  (hf : PySem.W.findIn K (.ref C) name = some (some (.ref f))) (ht : PySem.W.isFn K (.ref f) = true) (hv : mA name = none) (h : Q (.ref f,[.ref x]) s) :
  wpAny (model prog w) A (getMethod (.ref x) name pl) Q E s := by
 obtain ⟨od,J,hl⟩ := I.look
 exact PySem.W.method_fn X J (PySem.W.plainGet_of hg).1 (PySem.W.plainGet_of hg).2 hf (beq_iff_eq.mp ht) (by show (PySem.W.lookIn name od).map (·.isSome) = some false; rw [hl,hv]; rfl) h
theorem set_map {ns : List Str} {Q : Unit -> Shared -> Prop} (X : K.In s.heap) (I : ObjM s.heap x dx C mA)
  (hs : PySem.W.findIn K (.ref C) "__setattr__" = some (some (.builtin "object.__setattr__"))) (hp : PySem.W.plainOver K C = true) (ht : PySem.W.takerIn K C name = some none) (hh : PySem.W.hasDictIn K C = true)
  (hw : PySem.Within mA ns) (hsz : ns.length <= sizeLine)
  (h : ∀ h',ObjM h' x dx C (fun y => if y = name then some v else mA y) -> Heap.SameBut dx s.heap h' -> Q () { s with heap := h',toks := s.toks + 2 }) :
  wpAny (model prog w) A (setAttr (.ref x) name v) Q E s := by
 obtain ⟨od,J,hl⟩ := I.look
 refine PySem.W.set_plain X J hs (PySem.W.osa_open (s := { s with toks := s.toks + 1 }) (r := none) X J hp ht fun b => ?_)
 obtain ⟨cd,hc,hd'⟩ := PySem.W.any_some hh
 have hx : s.heap.get? x = some ⟨.ref C,some dx,.plain,#[]⟩ := I.obj
 refine wpAny_bind (wpAny_pure (wpAny_bind (wpAny_bind (wpAny_loadPart hx (wpAny_bind (PySem.W.Looks.here (s := { s with toks := s.toks + 1 }) (PySem.W.looks_clsIn X hc) ?_))))))
 rw [hd']
 refine wpAny_pure (a := some dx) (wpAny_bind (wpAny_pure (wpAny_bind ?_)))
 refine wpAny_nsSet1 (s := { s with toks := s.toks + 1 }) I.ns fun h' hn2 hs2 => ?_
 obtain ⟨oD,esD,epD,hoD,hdD,hcD⟩ := hn2.count (PySem.Within.cons name v hw)
 refine wpAny_bind (wpAny_lookBehind hoD (by rw [hdD]; exact pastItsLine_dict (Nat.le_trans hcD (by rw [List.length_cons]; omega))) ?_)
 exact wpAny_pure (h _ ⟨(hs2.2 _ (Ne.symm I.ne)).trans I.obj,hn2,I.ne⟩ hs2)
theorem make_map {R : Result -> Shared -> Prop} {vs : List Value} {kw : List (Str × Value)} (X : K.In s.heap) (hm : PySem.W.makesIn K C = true)
  (hi : PySem.W.findIn K (.ref C) "__init__" = some (some (.ref f))) (hf : PySem.W.typeIn K (.ref f) = some (.type "function"))
  (h : codeAny (model prog w) (A.under (.builtin "type.__call__" ⟨.ref C :: vs,kw⟩)) (.call (.ref f) ⟨.ref (s.heap.objs.size + 1) :: vs,kw⟩) (PySem.W.InitBack (s.heap.objs.size + 1) R)
   { s with heap := (s.heap.push PySem.W.emptyDict).push (PySem.W.instObj C s.heap.objs.size) }) :
  codeAny (model prog w) A (.call (.ref C) ⟨vs,kw⟩) R s := by
 obtain ⟨hh,g,d,t,os⟩ := s
 exact PySem.W.make_core (PySem.W.makes_of X hm) (PySem.W.looks_findIn X hi) (fun self => PySem.W.bind_fn X self hf) (.inl rfl) h
end
def putF (f : Str) (v : V) : List (Str × V) -> List (Str × V)
 | [] => [(f,v)]
 | (g,x) :: r => if g = f then (g,v) :: r else (g,x) :: putF f v r
theorem lookup_putF (f g : Str) (v : V) : ∀ fs : List (Str × V),(putF f v fs).lookup g = if g = f then some v else fs.lookup g
 | [] => by
  show List.lookup g [(f,v)] = _
  by_cases h : g = f
  ·have hb : (g == f) = true := beq_iff_eq.mpr h
   simp only [List.lookup,hb,if_pos h]
  ·have hb : (g == f) = false := beq_eq_false_iff_ne.mpr h
   simp only [List.lookup,hb,if_neg h]
 | (k,x) :: r => by
  have ih := lookup_putF f g v r
  rw [show putF f v ((k,x) :: r) = (if k = f then (k,v) :: r else (k,x) :: putF f v r) from rfl]
  by_cases hk : k = f
  ·rw [if_pos hk]
   by_cases h : g = k
   ·have hb : (g == k) = true := beq_iff_eq.mpr h
    simp only [List.lookup,hb,if_pos (h.trans hk)]
   ·have hb : (g == k) = false := beq_eq_false_iff_ne.mpr h
    simp only [List.lookup,hb,if_neg (fun e : g = f => h (e.trans hk.symm))]
  ·rw [if_neg hk]
   by_cases h : g = k
   ·have hb : (g == k) = true := beq_iff_eq.mpr h
    simp only [List.lookup,hb,if_neg (fun e : g = f => hk (h.symm.trans e))]
   ·have hb : (g == k) = false := beq_eq_false_iff_ne.mpr h
    simp only [List.lookup,hb]
    exact ih
theorem keys_putF (f : Str) (v : V) : ∀ fs : List (Str × V),f ∈ (putF f v fs).map (·.1) /\ ∀ g,g ∈ fs.map (·.1) -> g ∈ (putF f v fs).map (·.1)
 | [] => ⟨by simp [putF],fun g h => by simp at h⟩
 | (k,x) :: r => by
  obtain ⟨i1,i2⟩ := keys_putF f v r
  rw [show putF f v ((k,x) :: r) = (if k = f then (k,v) :: r else (k,x) :: putF f v r) from rfl]
  by_cases hk : k = f
  ·rw [if_pos hk]
   subst hk
   exact ⟨by simp,fun g h => by simpa using h⟩
  ·rw [if_neg hk]
   refine ⟨?_,fun g h => ?_⟩
   ·rw [List.map_cons]
    exact List.mem_cons_of_mem _ i1
   ·rw [List.map_cons] at h ⊢
    rcases List.mem_cons.mp h with e | e
    ·exact List.mem_cons.mpr (.inl e)
    ·exact List.mem_cons_of_mem _ (i2 g e)
theorem length_putF (f : Str) (v : V) : ∀ fs : List (Str × V),(putF f v fs).length <= fs.length + 1
 | [] => by simp [putF]
 | (k,x) :: r => by
  have ih := length_putF f v r
  rw [show putF f v ((k,x) :: r) = (if k = f then (k,v) :: r else (k,x) :: putF f v r) from rfl]
  by_cases hk : k = f
  ·rw [if_pos hk,List.length_cons,List.length_cons]; omega
  ·rw [if_neg hk,List.length_cons,List.length_cons]; omega
theorem RelO.some_of {v : V} {o : Option Value} (r : RelO (some v) o) : ∃ u,o = some u /\ zaG v u := by
 cases o with
 | none => exact (show False from r).elim
 | some u => exact ⟨u,rfl,r⟩
theorem RelO.none_of {o : Option Value} (r : RelO none o) : o = none := by
 cases o with
 | none => rfl
 | some u => exact (show False from r).elim
theorem handed_of {v : V} {u : Value} (r : zaG v u) : PySem.W.handedIn u = true := by
 cases v with
 | non => cases (show u = Value.none from r); rfl
 | bl b => cases (show u = Value.bool b from r); rfl
 | int i => obtain ⟨t,e⟩ := (show ∃ t,u = Value.int i t from r); cases e; rfl
 | str x => obtain ⟨t,e⟩ := (show ∃ t,u = Value.str x t from r); cases e; rfl
 | byt b => obtain ⟨t,e⟩ := (show ∃ t,u = Value.bytes b t from r); cases e; rfl
 | flt b => obtain ⟨t,e⟩ := (show ∃ t,u = Value.float b t from r); cases e; rfl
 | ref a => cases (show u = Value.ref a from r); rfl
 | ty n => cases (show u = Value.type n from r); rfl
section
variable {P : Program} {w : World} {H H' : Hp} {h h' : Heap} {a C dx : Addr} {fs fs' : List (Str × V)}
theorem ins_get (hok : HOk P w H h) (e : H a = some (.ins C dx fs)) : ∃ mA,ObjM h a dx C mA /\ (∀ f,RelO (fs.lookup f) (mA f)) /\ PySem.Within mA (fs.map (·.1)) /\ fs.length <= 1000 /\ H dx = some (.own a) := by
 obtain ⟨d,z,ne,ob,mA,n,r,q⟩ := (show za2 P w H h a (.ins C dx fs) from hok a _ e)
 exact ⟨mA,⟨ob,n,ne⟩,r,q,z,d⟩
end
structure Cls (K : PySem.W.Frag) (C : Addr) : Prop where
 pg : PySem.W.plainGet K C Str.empty = true
 hd : PySem.W.hasDictIn K C = true
 po : PySem.W.plainOver K C = true
 sa : PySem.W.findIn K (.ref C) "__setattr__" = some (some (.builtin "object.__setattr__"))
theorem Cls.get {K : PySem.W.Frag} {C : Addr} (c : Cls K C) (f : Str) : PySem.W.plainGet K C f = true := c.pg
def NoAttr (K : PySem.W.Frag) (C : Addr) (f : Str) : Prop := PySem.W.findIn K (.ref C) f = some none
theorem NoAttr.taker {K : PySem.W.Frag} {C : Addr} {f : Str} (n : NoAttr K C f) : PySem.W.takerIn K C f = some none := by
 unfold PySem.W.takerIn
 rw [show PySem.W.findIn K (.ref C) f = some none from n]
 rfl
structure Con (K : PySem.W.Frag) (C : Addr) (f : Str) (v : V) (u : Value) : Prop where
 at_ : PySem.W.findIn K (.ref C) f = some (some u)
 rel : zaG v u
 get : PySem.W.specialIn K u "__get__" = some none
 cp : PySem.W.copiedNames.contains f = false
structure Meth (K : PySem.W.Frag) (C : Addr) (m : Str) (f : Addr) : Prop where
 at_ : PySem.W.findIn K (.ref C) m = some (some (.ref f))
 fn : PySem.W.isFn K (.ref f) = true
 kp : PySem.W.keepIn K (.ref f) = true
section
variable {X : Cx} {pins : List (Addr × Obj)} {σ : St} {H : Hp} {s : Shared} {a C dx : Addr} {fs : List (Str × V)} {f : Str} {v : V} {A : Around} {E : Value -> Shared -> Prop}
theorem getattr_ok {b : Bool} {Q : Value -> Shared -> Prop} (I : Inv X pins σ H s) (e : H a = some (.ins C dx fs)) (c : Cls X.K C) (n : NoAttr X.K C f) (l : fs.lookup f = some v)
  (h : ∀ u s',Inv X pins σ H s' -> zaG v u -> Q u s') : wpAny (model X.prog X.w) A (getAttr (.ref a) f b) Q E s := by
 obtain ⟨mA,O,r,_,_,_⟩ := ins_get I.hok e
 obtain ⟨u,hu,ru⟩ := RelO.some_of (v := v) (o := mA f) (by rw [<- l]; exact r f)
 exact get_map I.kIn O (c.get f) c.hd n hu (handed_of ru) (h u _ (I.tok _) ru)
theorem getmeth_ok {m : Str} {g : Addr} {pl : Sem Bool} {Q : Value × List Value -> Shared -> Prop} (I : Inv X pins σ H s) (e : H a = some (.ins C dx fs)) (c : Cls X.K C) (k : Meth X.K C m g) (l : fs.lookup m = none)
  (h : Q (.ref g,[.ref a]) s) : wpAny (model X.prog X.w) A (getMethod (.ref a) m pl) Q E s := by
 obtain ⟨mA,O,r,_,_,_⟩ := ins_get I.hok e
 have hn : mA m = none := RelO.none_of (by rw [<- l]; exact r m)
 exact get_meth I.kIn O (c.get m) k.at_ k.fn hn h
theorem setattr_ok {y : V} {u : Value} {Q : Unit -> Shared -> Prop} (I : Inv X pins σ H s) (e : H a = some (.ins C dx fs)) (c : Cls X.K C) (n : NoAttr X.K C f) (hl : fs.length < 1000) (ry : zaG y u)
  (h : ∀ s',Inv X pins σ (upd H a (.ins C dx (putF f y fs))) s' -> Q () s') : wpAny (model X.prog X.w) A (setAttr (.ref a) f u) Q E s := by
 obtain ⟨mA,O,r,wi,_,ho⟩ := ins_get I.hok e
 have hz : (fs.map (·.1)).length <= sizeLine := by rw [List.length_map,sizeLine_eq]; omega
 refine set_map I.kIn O c.sa c.po n.taker c.hd wi hz fun h' O' sb => h _ ?_
 have hd : ∃ o,h'.get? dx = some o := let ⟨o,_,_,e',_⟩ := O'.ns; ⟨o,e'⟩
 refine I.write (x := a) (e := dx) (by rw [e]; exact True.intro) (.inr ho) (fun b q hb z => (sb.2 b hb).trans z) hd ?_
 refine ⟨by rw [zah O.ne]; exact ho,?_,O.ne,O'.obj,_,O'.ns,fun g => ?_,fun g hg => ?_⟩
 ·have := length_putF f y fs; omega
 ·show RelO ((putF f y fs).lookup g) (if g = f then some u else mA g)
  rw [lookup_putF]
  by_cases q : g = f
  ·rw [if_pos q,if_pos q]; exact ry
  ·rw [if_neg q,if_neg q]; exact r g
 ·by_cases q : g = f
  ·rw [q]; exact (keys_putF f y fs).1
  ·refine (keys_putF f y fs).2 g (wi g fun z => hg ?_)
   show (if g = f then some u else mA g) = none
   rw [if_neg q]; exact z
theorem Inv.made (I : Inv X pins σ H s) : Inv X pins σ (upd (upd H s.heap.objs.size (.own (s.heap.objs.size + 1))) (s.heap.objs.size + 1) (.ins C s.heap.objs.size []))
  { s with heap := (s.heap.push PySem.W.emptyDict).push (PySem.W.instObj C s.heap.objs.size) } := by
 have e1 : (s.heap.push PySem.W.emptyDict).get? s.heap.objs.size = some PySem.W.emptyDict := Heap.get?_push_size s.heap rfl
 have e2 : ((s.heap.push PySem.W.emptyDict).push (PySem.W.instObj C s.heap.objs.size)).get? (s.heap.objs.size + 1) = some (PySem.W.instObj C s.heap.objs.size) := by
  have := Heap.get?_push_size (s.heap.push PySem.W.emptyDict) (o := PySem.W.instObj C s.heap.objs.size) rfl
  rwa [Heap.size_push] at this
 have e3 : (s.heap.push PySem.W.emptyDict).Ns s.heap.objs.size (fun _ => none) := ⟨PySem.W.emptyDict,#[],_,e1,rfl,(fun e he => absurd he (by simp)),fun _ => rfl⟩
 have I1 := I.laid (a := s.heap.objs.size) (o := .own (s.heap.objs.size + 1)) (h' := s.heap.push PySem.W.emptyDict) (t' := s.toks) (fun b u q => Heap.get?_push_of_some _ q) (Nat.le_refl _) ⟨_,e1⟩
 refine I1.laid (a := s.heap.objs.size + 1) (o := .ins C s.heap.objs.size []) (t' := s.toks) (fun b u q => Heap.get?_push_of_some _ q) (Nat.le_of_eq (Heap.size_push _ _)) ?_
 have ne : s.heap.objs.size ≠ s.heap.objs.size + 1 := Nat.ne_of_lt (Nat.lt_succ_self _)
 refine ⟨by rw [zah ne,zag],Nat.zero_le _,ne,e2,fun _ => none,(Heap.Ns1.of_empty e3).at fun o q => Heap.get?_push_of_some _ q,fun _ => True.intro,fun y hy => absurd rfl hy⟩
theorem attr_of {prog : Program} {w : World} {env : Env} {e : Expr} {f : Str} {pos : Pos} {s : Shared} {Q : Value -> Shared -> Prop} (hb : attributeBase e f env (eval e env) = eval e env)
  (h : wpAny (model prog w) A (eval e env) (fun o s₁ => wpAny (model prog w) A (getAttr o f true) Q E s₁) E s) : wpAny (model prog w) A (eval (.Attribute e f pos) env) Q E s :=
 Attribute_any_ h (by rw [arm_eval_Attribute,hb])
end
def tFld (K : PySem.W.Frag) (ta : TE) (f : Str) : TE := fun σ H Q => ta σ H fun x H1 => ∃ a C dx fs v,x = .ref a /\ H1 a = some (.ins C dx fs) /\ Cls K C /\ NoAttr K C f /\ fs.lookup f = some v /\ Q v H1
def sFld (K : PySem.W.Frag) (ta tv : TE) (f : Str) : TS := fun D σ H => tv σ H fun y H1 => ta σ H1 fun x H2 => ∃ a C dx fs,x = .ref a /\ H2 a = some (.ins C dx fs) /\ Cls K C /\ NoAttr K C f /\ fs.length < 1000 /\
 D.nx σ (upd H2 a (.ins C dx (putF f y fs)))
section
variable {X : Cx} {o e value : Expr} {f : Str} {pos pos' tpos : Pos} {ta tv : TE}
theorem pe_fld (he : PE X e ta) (hb : attributeBase e f X.env (eval e X.env) = eval e X.env) : PE X (.Attribute e f pos) (tFld X.K ta f) := by
 intro pins s σ H Q I h
 refine attr_of hb (thn (he pins s σ H _ I h) fun u s1 ⟨x,H1,I1,rx,a,C,dx,fs,v,ex,ea,c,n,l,q⟩ => ?_)
 subst ex
 obtain rfl : u = Value.ref a := rx
 exact getattr_ok I1 ea c n l fun u' s2 I2 ru => ⟨v,H1,I2,ru,q⟩
theorem ps_fld (ha : PE X o ta) (hv : PE X value tv) (hs : swapsWith value (some (.Attribute o f pos')) pos.line X.env = pure false) : PS X (.Assign [.Attribute o f pos'] value pos) (sFld X.K ta tv f) := by
 intro pins s σ H D I h
 refine plainObj_wpAny_Assign_Attribute (thn (hv pins s σ H _ I h) fun u s1 ⟨y,H1,I1,ry,q⟩ => thn (ha pins s1 σ H1 _ I1 q) fun ov s2 ⟨x,H2,I2,rx,a,C,dx,fs,ex,ea,c,n,l,q2⟩ => ?_) hs
 subst ex
 obtain rfl : ov = Value.ref a := rx
 exact setattr_ok I2 ea c n l ry fun s3 I3 => ⟨σ,_,I3,q2⟩
end
section
variable {X : Cx} {pins : List (Addr × Obj)} {σ : St} {H : Hp} {s : Shared} {A : Around} {E : Value -> Shared -> Prop} {Q : Value -> Shared -> Prop} {c : Value} {b : Bool}
inductive TyOf (K : PySem.W.Frag) (H : Hp) : V -> Value -> Prop where
 | non : TyOf K H .non (.type "NoneType")
 | bl (x : Bool) : TyOf K H (.bl x) (.type "bool")
 | int (i : Int) : TyOf K H (.int i) (.type "int")
 | str (x : Str) : TyOf K H (.str x) (.type "str")
 | flt (x : UInt64) : TyOf K H (.flt x) (.type "float")
 | lst {a : Addr} {xs : List V} (e : H a = some (.lst xs)) : TyOf K H (.ref a) (.type "list")
 | frz {a : Addr} {o : Obj} {xs : List V} (e : H a = some (.frz o (.lst xs))) : TyOf K H (.ref a) (.type "list")
 | tup {a : Addr} {xs : List V} (e : H a = some (.tup xs)) : TyOf K H (.ref a) (.type "tuple")
 | dK {a : Addr} {kvs : List (Key × V)} (e : H a = some (.dK kvs)) : TyOf K H (.ref a) (.type "dict")
 | dT {a : Addr} {kvs : List (List Key × V)} (e : H a = some (.dT kvs)) : TyOf K H (.ref a) (.type "dict")
 | ins {a C dx : Addr} {fs : List (Str × V)} (e : H a = some (.ins C dx fs)) (cl : Cls K C) (ha : PySem.W.findIn K (.ref C) "__class__" = some (some (.builtin "object.__class__")))
   (hn : PySem.W.specialIn K (.builtin "object.__class__") "__get__" = some (some (.builtin "getset_descriptor.__get__"))) (htk : PySem.W.takesIn K (.builtin "object.__class__") = some true)
   (hm : PySem.W.mroIn K C (.type "object") = some true) : TyOf K H (.ref a) (.ref C)
theorem isinst_ok {x : V} {u t : Value} (I : Inv X pins σ H s) (rx : zaG x u) (ty : TyOf X.K H x t) (e : PySem.W.kitOne X.K t c = some b) (h : ∀ tk,Q (.bool b) { s with toks := tk }) :
  wpAny (model X.prog X.w) A (call (.builtin "isinstance") [u,c]) Q E s := by
 cases ty with
 | non => cases (show u = Value.none from rx); exact PySem.W.kia_one PySem.W.kitx_none I.kIn True.intro e (fun z => nomatch z) h
 | bl y => cases (show u = Value.bool y from rx); exact PySem.W.kia_one PySem.W.kitx_bool I.kIn True.intro e (fun z => nomatch z) h
 | int i => obtain ⟨t,q⟩ := (show ∃ t,u = Value.int i t from rx); cases q; exact PySem.W.kia_one PySem.W.kitx_int I.kIn True.intro e (fun z => nomatch z) h
 | str y => obtain ⟨t,q⟩ := (show ∃ t,u = Value.str y t from rx); cases q; exact PySem.W.kia_one PySem.W.kitx_str I.kIn True.intro e (fun z => nomatch z) h
 | flt y => obtain ⟨t,q⟩ := (show ∃ t,u = Value.float y t from rx); cases q; exact PySem.W.kia_one PySem.W.kitx_float I.kIn True.intro e (fun z => nomatch z) h
 | @lst a xs ea =>
  cases (show u = Value.ref a from rx)
  obtain ⟨_,_,n,_,h1⟩ := (show za2 X.prog X.w H s.heap a (.lst xs) from I.hok a _ ea)
  exact PySem.W.kia_one PySem.W.kitx_list I.kIn ⟨_,h1,rfl⟩ e (fun z => nomatch z) h
 | @frz a ob xs ea =>
  cases (show u = Value.ref a from rx)
  obtain ⟨_,_,_,n,_,h1⟩ := (show za2 X.prog X.w H s.heap a (.frz ob (.lst xs)) from I.hok a _ ea)
  exact PySem.W.kia_one PySem.W.kitx_list I.kIn ⟨_,h1,rfl⟩ e (fun z => nomatch z) h
 | @tup a xs ea =>
  cases (show u = Value.ref a from rx)
  obtain ⟨_,_,_,p⟩ := (show za2 X.prog X.w H s.heap a (.tup xs) from I.hok a _ ea)
  obtain ⟨o,h1,h2,_⟩ := p
  exact PySem.W.kia_one PySem.W.kitx_tuple I.kIn ⟨o,h1,h2⟩ e (fun z => nomatch z) h
 | @dK a kvs ea =>
  cases (show u = Value.ref a from rx)
  obtain ⟨_,_,vs,_,p⟩ := (show za2 X.prog X.w H s.heap a (.dK kvs) from I.hok a _ ea)
  obtain ⟨o,es,ep,h1,h2,_⟩ := p
  exact PySem.W.kia_one PySem.W.kitx_dict I.kIn ⟨o,h1,h2.1⟩ e (fun z => nomatch z) h
 | @dT a kvs ea =>
  cases (show u = Value.ref a from rx)
  obtain ⟨_,_,xs,_,o,es,ep,h1,h2,_⟩ := (show za2 X.prog X.w H s.heap a (.dT kvs) from I.hok a _ ea)
  exact PySem.W.kia_one PySem.W.kitx_dict I.kIn ⟨o,h1,h2.1⟩ e (fun z => nomatch z) h
 | @ins a C dx fs ea cl ha hn htk hm =>
  cases (show u = Value.ref a from rx)
  obtain ⟨mA,O,_⟩ := ins_get I.hok ea
  obtain ⟨od,J,_⟩ := O.look
  exact PySem.W.kia_one (PySem.W.kitx_own (cl.get _) cl.hd ha hn htk hm) I.kIn J e (fun z => nomatch z) h
end
end L2
namespace L2
open PySem PySem.Spec PyProof.Rows
structure Room (k : Nat) (A : Around) : Prop where
 hd : A.handled = none
 dp : A.depth + 3 * k + 5 < recursionLimit
 un : A.units + 16 * k + 200 < cLine
theorem Room.mono {j k : Nat} {A : Around} (r : Room k A) (h : j <= k) : Room j A := ⟨r.hd,by have := r.dp; omega,by have := r.un; omega⟩
theorem Room.deeper {k : Nat} {A : Around} (r : Room (k + 1) A) (env : Env) : Room k (A.deeper env) :=
 ⟨r.hd,by have := r.dp; show A.depth + 1 + 3 * k + 5 < _; omega,by have := r.un; show A.units + 3 + 16 * k + 200 < _; omega⟩
theorem make_depth {A : Around} {C : Addr} {us : List Value} {kw : List (Str × Value)} : (A.under (.builtin "type.__call__" ⟨.ref C :: us,kw⟩)).depth = A.depth + 1 := by
 first | rfl | simp [Around.under,Code.weight,Code.isCreation,Code.isGuard,Code.isCaller,Code.frames,Code.isFrame,guardIds]
theorem make_units {A : Around} {C : Addr} {us : List Value} {kw : List (Str × Value)} : (A.under (.builtin "type.__call__" ⟨.ref C :: us,kw⟩)).units = A.units + 1 := by
 first | rfl | simp [Around.under,Code.cUnits,Code.frames,Code.isFrame]
theorem Room.make {k : Nat} {A : Around} (r : Room (k + 1) A) (C : Addr) (us : List Value) (kw : List (Str × Value)) : Room k (A.under (.builtin "type.__call__" ⟨.ref C :: us,kw⟩)) :=
 ⟨r.hd,by have := r.dp; rw [make_depth]; omega,by have := r.un; rw [make_units]; omega⟩
theorem Room.depth {k : Nat} {A : Around} (r : Room k A) : A.depth < recursionLimit := by have := r.dp; omega
theorem Room.units {k : Nat} {A : Around} (r : Room k A) : A.units + 64 < cLine := by have := r.un; omega
def tNil : TA := fun _ H Q => Q [] H
def tCons (ta : TE) (tr : TA) : TA := fun σ H Q => ta σ H fun x H1 => tr σ H1 fun xs H2 => Q (x :: xs) H2
section
variable {X : Cx} {e : Expr} {es : List Expr} {te : TE} {t : TA} {pos : Pos}
theorem pa_nil : PA X [] tNil := fun _ _ _ _ H Q I h => Calls.spliced_nil ⟨[],H,I,.nil,h⟩
theorem pa_cons (ha : PE X e te) (hr : PA X es t) (hs : starEach (e :: es) X.env = (false,eval e X.env) :: starEach es X.env := by rfl) : PA X (e :: es) (tCons te t) := by
 intro pos pins s σ H Q I h
 rw [hs]
 show wpAny _ _ (spliced ((false,eval e X.env) :: backTo pos (starEach es X.env))) _ _ s
 refine Calls.spliced_cons (thn (ha pins s σ H _ I h) fun u s1 ⟨x,H1,I1,r1,q1⟩ => ?_)
 exact thn (hr pos pins s1 σ H1 _ I1 q1) fun us s2 ⟨xs,H2,I2,r2,q2⟩ => ⟨x :: xs,H2,I2,.cons r1 r2,q2⟩
def tTup (t : TA) : TE := fun σ H Q => t σ H fun xs H1 => xs.length <= sizeLine /\ ∀ p,H1 p = none -> Q (.ref p) (upd H1 p (.tup xs))
def tLst (t : TA) : TE := fun σ H Q => t σ H fun xs H1 => xs.length <= sizeLine /\ ∀ p,H1 p = none -> Q (.ref p) (upd H1 p (.lst xs))
theorem pe_tup {x1} (h : PA X es t) : PE X (.Tuple es x1 pos) (tTup t) := by
 intro pins s σ H Q I hq
 refine wpAny_Tuple_spliced (thn (h pos pins s σ H _ I hq) fun us s1 ⟨xs,H1,I1,r,z,q⟩ => ⟨by rw [<- r.length]; exact z,?_⟩)
 have hf : H1 s1.heap.objs.size = none := I1.hok.fresh (Nat.le_refl _)
 refine ⟨.ref s1.heap.objs.size,upd H1 s1.heap.objs.size (.tup xs),I1.laid (t' := s1.toks) (fun b u e => Heap.get?_push_of_some _ e) (Nat.le_refl _) ?_,rfl,q _ hf⟩
 exact ⟨z,us,r,⟨_,Heap.get?_push_size _ rfl,rfl,_,rfl⟩⟩
theorem pe_lst (h : PA X es t) : PE X (.List es pos) (tLst t) := by
 intro pins s σ H Q I hq
 refine wpAny_List_spliced (thn (h pos pins s σ H _ I hq) fun us s1 ⟨xs,H1,I1,r,z,q⟩ => ⟨by rw [<- r.length]; exact z,?_⟩)
 have hf : H1 s1.heap.objs.size = none := I1.hok.fresh (Nat.le_refl _)
 refine ⟨.ref s1.heap.objs.size,upd H1 s1.heap.objs.size (.lst xs),I1.laid (t' := s1.toks) (fun b u e => Heap.get?_push_of_some _ e) (Nat.le_refl _) ?_,rfl,q _ hf⟩
 exact ⟨z,us,0,r,Heap.get?_push_size _ rfl⟩
end
abbrev Sp := List V -> Hp -> VK -> XK -> Prop
abbrev CXT := List Env -> Hp -> Shared -> XK -> Value -> Shared -> Prop
structure Env0 (P : Program) (w : World) (K : PySem.W.Frag) (mg : Str -> Option Value) (base : Heap) (A : Around) (outer : List Env) (s : Shared) (H : Hp) : Prop where
 frames : A.frames = some outer
 mod : Mod K mg base
 bs : ∀ b o,base.get? b = some o -> s.heap.get? b = some o /\ H b = none
 bsz : base.objs.size <= s.heap.objs.size
 funs : s.heap.FunFrames base outer
 frf : ∀ b ∈ frs outer,H b = none
 hok : HOk P w H s.heap
 bare : AllBare s.gens
def CE (outer : List Env) (P : Program) (w : World) (H : Hp) (s : Shared) (Q : VK) (u : Value) (s' : Shared) : Prop :=
 ∃ v H',s'.os = s.os /\ AllBare s'.gens /\ Un (frs outer) [] H H' s.heap s'.heap /\ HOk P w H' s'.heap /\ zaG v u /\ Q v H'
def CR (CX : CXT) (outer : List Env) (P : Program) (w : World) (H : Hp) (s : Shared) (Q : VK) (E : XK) (r : Result) (s' : Shared) : Prop :=
 match r with
 | .ok (.ret u) => CE outer P w H s Q u s'
 | .ok _ => False
 | .error e => CX outer H s E e s'
structure FnOk (P : Program) (w : World) (K : PySem.W.Frag) (mg : Str -> Option Value) (base : Heap) (CX : CXT) (k : Nat) (f : Addr) (fd : FuncData) (ps : List Str) (sp : Sp) : Prop where
 len : ∀ vs H Q E,sp vs H Q E -> vs.length = ps.length
 run : ∀ (A : Around) (outer : List Env) (s : Shared) (H : Hp) (args : Args) (us : List Value) (vs : List V) (Q : VK) (E : XK),Room k A -> Env0 P w K mg base A outer s H -> BindsTo s fd args (ps.zip us) -> zav vs us -> sp vs H Q E ->
  codeAny (model P w) A (.call (.ref f) args) (CR CX outer P w H s Q E) s
theorem FnOk.mono {P : Program} {w : World} {K : PySem.W.Frag} {mg : Str -> Option Value} {base : Heap} {CX : CXT} {j k : Nat} {f : Addr} {fd : FuncData} {ps : List Str} {sp : Sp} (F : FnOk P w K mg base CX j f fd ps sp) (h : j <= k) :
  FnOk P w K mg base CX k f fd ps sp := ⟨F.len,fun A outer s H args us vs Q E hr => F.run A outer s H args us vs Q E (hr.mono h)⟩
theorem Env0.make {P : Program} {w : World} {K : PySem.W.Frag} {mg : Str -> Option Value} {base : Heap} {A : Around} {outer : List Env} {s : Shared} {H : Hp} (e : Env0 P w K mg base A outer s H) (C : Addr) (us : List Value) (kw : List (Str × Value)) :
  Env0 P w K mg base (A.under (.builtin "type.__call__" ⟨.ref C :: us,kw⟩)) outer s H := ⟨by first | exact e.frames | (simpa [Around.under,Code.envs,Code.isFrame,pushEnvs] using e.frames),e.mod,e.bs,e.bsz,e.funs,e.frf,e.hok,e.bare⟩
section
variable {X : Cx} {pins : List (Addr × Obj)} {σ : St} {H : Hp} {s s' : Shared}
theorem Inv.env0 (I : Inv X pins σ H s) : Env0 X.prog X.w X.K X.mg X.base X.A X.stack s H :=
 ⟨I.ok.frames,I.ok.mod,I.bs,Nat.le_trans I.ok.bsz I.sz,I.stack,I.stkFree,I.hok,I.bare⟩
theorem Inv.after {Q : VK} {u : Value} (I : Inv X pins σ H s) (h : CE X.stack X.prog X.w H s Q u s') : EP X pins σ Q u s' := by
 obtain ⟨v,H',os,bare,un,hok,r,q⟩ := h
 obtain ⟨hh,g,d,t,os'⟩ := s'
 obtain rfl : os' = s.os := os
 exact ⟨v,H',I.call (h' := hh) (g' := g) (d' := d) (t' := t) (ch := []) un hok bare (fun b z => absurd z (by simp)),r,q⟩
end
def tCall (sp : Sp) (dvs : List V) (E : XK) (t : TA) : TE := fun σ H Q => t σ H fun vs H1 => sp (vs ++ dvs) H1 Q E
def tMeth (C : Addr) (m : Str) (sp : Sp) (dvs : List V) (E : XK) (ta : TE) (t : TA) : TE := fun σ H Q => ta σ H fun x H1 => ∃ a dx fs,x = .ref a /\ H1 a = some (.ins C dx fs) /\ fs.lookup m = none /\
 t σ H1 fun vs H2 => sp (x :: (vs ++ dvs)) H2 Q E
def tMake (C : Addr) (sp : Sp) (dvs : List V) (E : XK) (t : TA) : TE := fun σ H Q => t σ H fun vs H1 => ∀ x dx,H1 x = none -> H1 dx = none -> dx ≠ x ->
 sp (.ref x :: (vs ++ dvs)) (upd (upd H1 dx (.own x)) x (.ins C dx [])) (fun v H2 => v = .non /\ Q (.ref x) H2) E
def Binds (K : PySem.W.Frag) (fd : FuncData) (ps : List Str) (ds : List Value) : Prop :=
 ∀ (s : Shared) (us : List Value),K.In s.heap -> (us ++ ds).length = ps.length -> BindsTo s fd ⟨us,[]⟩ (ps.zip (us ++ ds))
theorem Binds.all {K : PySem.W.Frag} {fd : FuncData} {ps : List Str} (h : ∀ us : List Value,us.length = ps.length -> bindArgs fd ⟨us,[]⟩ = pure (ps.zip us)) : Binds K fd ps [] := fun s us _ hl => by
 rw [List.append_nil] at hl ⊢
 exact .of_eq (h us hl)
def Passes (CX : CXT) (X : Cx) (E : XK) : Prop := ∀ (pins : List (Addr × Obj)) (σ : St) (H : Hp) (s : Shared) (e : Value) (s' : Shared),Inv X pins σ H s -> CX X.stack H s E e s' -> X.xe e s'
section
variable {X : Cx} {CX : CXT} {k : Nat} {f C : Addr} {fd : FuncData} {ps : List Str} {sp : Sp} {dvs : List V} {ds : List Value} {E : XK} {x m : Str} {p pos apos : Pos} {e o : Expr} {es : List Expr} {ta : TE} {t : TA}
theorem run_fn {pins : List (Addr × Obj)} {σ : St} {H : Hp} {s : Shared} {Q : VK} {us : List Value} {vs : List V} (F : FnOk X.prog X.w X.K X.mg X.base CX k f fd ps sp) (hr : Room k X.A) (hb : Binds X.K fd ps ds) (hd : zav dvs ds) (hx : Passes CX X E)
  (I : Inv X pins σ H s) (r : zav vs us) (h : sp (vs ++ dvs) H Q E) : wpAny (model X.prog X.w) X.A (call (.ref f) us) (EP X pins σ Q) X.xe s := by
 have r2 : zav (vs ++ dvs) (us ++ ds) := r.append hd
 have hl : (us ++ ds).length = ps.length := by rw [<- r2.length]; exact F.len _ _ _ _ h
 refine wpAny_call (codeAny_mono (F.run X.A X.stack s H ⟨us,[]⟩ (us ++ ds) (vs ++ dvs) Q E hr I.env0 (hb s us I.kIn hl) r2 h) fun r s' hq => ?_)
 cases r with
 | error e => exact hx pins σ H s e s' I hq
 | ok fl =>
  cases fl with
  | ret u => exact I.after hq
  | next => exact False.elim hq
  | brk => exact False.elim hq
  | cont => exact False.elim hq
theorem pe_call (F : FnOk X.prog X.w X.K X.mg X.base CX k f fd ps sp) (hr : Room k X.A) (hg : Gl X x) (hm : X.mg x = some (.ref f)) (hk : PySem.W.keepIn X.K (.ref f) = true) (hb : Binds X.K fd ps ds) (hd : zav dvs ds) (hx : Passes CX X E)
  (ha : PA X (e :: es) t) (hdb : (x == ("__debug__" : Str)) = false := by decide) (he : starEach (e :: es) X.env = (false,eval e X.env) :: starEach es X.env := by rfl) (hpl : (backTo pos (starEach es X.env)).any (·.1) = false := by rfl) :
  PE X (.Call (.Name x p) (e :: es) [] pos) (tCall sp dvs E t) := by
 intro pins s σ H Q I h
 refine wpAny_Call_Name_kw (ld_glob I hg hm ?_ hdb)
 refine PySem.W.callWith_K (h₀ := X.base) I.ok.mod.kin hk (thn (ha pos pins s σ H _ I h) fun us s1 ⟨vs,H1,I1,r,q⟩ => ⟨I1.kIn,?_⟩) he hpl
 exact run_fn F hr hb hd hx I1 r q
theorem pe_meth {pl : Sem Bool} (he : PE X o ta) (c : Cls X.K C) (hm : Meth X.K C m f) (F : FnOk X.prog X.w X.K X.mg X.base CX k f fd ps sp) (hr : Room k X.A) (hb : Binds X.K fd ps ds) (hd : zav dvs ds) (hx : Passes CX X E) (ha : PA X (e :: es) t)
  (hst : starEach (e :: es) X.env = (false,eval e X.env) :: starEach es X.env := by rfl) (hpl : (backTo pos (starEach es X.env)).any (·.1) = false := by rfl)
  (ht : eval (.Call (.Attribute o m apos) (e :: es) [] pos) X.env = (do
   let ov <- eval o X.env
   standAt apos.atName
   let (f,first) <- holding [ov] (getMethod ov m pl)
   callWith pos f first (backTo pos (starEach (e :: es) X.env)) (backToKw pos (keywordEach [] X.env))) := by rfl) :
  PE X (.Call (.Attribute o m apos) (e :: es) [] pos) (tMeth C m sp dvs E ta t) := by
 intro pins s σ H Q I h
 refine PySem.W.methodCall_KW (pl := pl) (thn (he pins s σ H _ I h) fun u s1 ⟨x,H1,I1,rx,a,dx,fs,ex,ea,l,q⟩ => ?_) ht
 subst ex
 obtain rfl : u = Value.ref a := rx
 refine getmeth_ok I1 ea c hm l ?_
 refine PySem.W.callWith_K (first := [.ref a]) (h₀ := X.base) I.ok.mod.kin hm.kp (thn (ha pos pins s1 σ H1 _ I1 q) fun us s2 ⟨vs,H2,I2,r,q2⟩ => ⟨I2.kIn,?_⟩) hst hpl
 exact run_fn (us := .ref a :: us) (vs := .ref a :: vs) F hr hb hd hx I2 (.cons rfl r) q2
theorem pe_meth0 {pl : Sem Bool} (he : PE X o ta) (c : Cls X.K C) (hm : Meth X.K C m f) (F : FnOk X.prog X.w X.K X.mg X.base CX k f fd ps sp) (hr : Room k X.A) (hb : Binds X.K fd ps ds) (hd : zav dvs ds) (hx : Passes CX X E)
  (ht : eval (.Call (.Attribute o m apos) [] [] pos) X.env = (do
   let ov <- eval o X.env
   standAt apos.atName
   let (f,first) <- holding [ov] (getMethod ov m pl)
   callWith pos f first (backTo pos (starEach [] X.env)) (backToKw pos (keywordEach [] X.env))) := by rfl) :
  PE X (.Call (.Attribute o m apos) [] [] pos) (tMeth C m sp dvs E ta tNil) := by
 intro pins s σ H Q I h
 refine PySem.W.methodCall_KW (pl := pl) (thn (he pins s σ H _ I h) fun u s1 ⟨x,H1,I1,rx,a,dx,fs,ex,ea,l,q⟩ => ?_) ht
 subst ex
 obtain rfl : u = Value.ref a := rx
 refine getmeth_ok I1 ea c hm l ?_
 exact PySem.W.callWith_K0 (first := [.ref a]) I1.kIn hm.kp (run_fn (us := [.ref a]) (vs := [.ref a]) F hr hb hd hx I1 (.cons rfl .nil) q)
structure Mk (K : PySem.W.Frag) (C f : Addr) : Prop where
 makes : PySem.W.makesIn K C = true
 init : PySem.W.findIn K (.ref C) "__init__" = some (some (.ref f))
 fn : PySem.W.isFn K (.ref f) = true
 kp : PySem.W.keepIn K (.ref C) = true
theorem run_make {pins : List (Addr × Obj)} {σ : St} {H : Hp} {s : Shared} {Q : VK} {us : List Value} {vs : List V} (M : Mk X.K C f) (F : FnOk X.prog X.w X.K X.mg X.base CX k f fd ps sp) (hr : Room (k + 1) X.A) (hb : Binds X.K fd ps ds) (hd : zav dvs ds)
  (hx : Passes CX X E) (I : Inv X pins σ H s) (r : zav vs us)
  (h : ∀ x dx,H x = none -> H dx = none -> dx ≠ x -> sp (.ref x :: (vs ++ dvs)) (upd (upd H dx (.own x)) x (.ins C dx [])) (fun v H2 => v = .non /\ Q (.ref x) H2) E) :
  wpAny (model X.prog X.w) X.A (call (.ref C) us) (EP X pins σ Q) X.xe s := by
 have hq := h (s.heap.objs.size + 1) s.heap.objs.size (I.hok.fresh (Nat.le_succ _)) (I.hok.fresh (Nat.le_refl _)) (Nat.ne_of_lt (Nat.lt_succ_self _))
 have I2 := Inv.made (C := C) I
 have r2 : zav (V.ref (s.heap.objs.size + 1) :: (vs ++ dvs)) (Value.ref (s.heap.objs.size + 1) :: (us ++ ds)) := .cons rfl (r.append hd)
 have hl : (Value.ref (s.heap.objs.size + 1) :: us ++ ds).length = ps.length := by
  have e := r2.length
  rw [F.len _ _ _ _ hq] at e
  exact e.symm
 refine wpAny_call (make_map (f := f) I.kIn M.makes M.init (beq_iff_eq.mp M.fn) (codeAny_mono (F.run _ X.stack _ _ ⟨Value.ref (s.heap.objs.size + 1) :: us,[]⟩ (Value.ref (s.heap.objs.size + 1) :: (us ++ ds)) _ _ E (hr.make C us [])
  (I2.env0.make C us []) (hb _ (Value.ref (s.heap.objs.size + 1) :: us) I2.kIn hl) r2 hq) fun r s' hq' => ?_))
 cases r with
 | error e => exact hx pins σ _ _ e s' I2 hq'
 | ok fl =>
  cases fl with
  | ret u =>
   obtain ⟨v,H',I3,rv,ev,q3⟩ := I2.after hq'
   subst ev
   exact ⟨rv,⟨V.ref (s.heap.objs.size + 1),H',I3,rfl,q3⟩⟩
  | next => exact False.elim hq'
  | brk => exact False.elim hq'
  | cont => exact False.elim hq'
theorem pe_make (M : Mk X.K C f) (F : FnOk X.prog X.w X.K X.mg X.base CX k f fd ps sp) (hr : Room (k + 1) X.A) (hg : Gl X x) (hm : X.mg x = some (.ref C)) (hb : Binds X.K fd ps ds) (hd : zav dvs ds) (hx : Passes CX X E)
  (ha : PA X (e :: es) t) (hdb : (x == ("__debug__" : Str)) = false := by decide) (he : starEach (e :: es) X.env = (false,eval e X.env) :: starEach es X.env := by rfl) (hpl : (backTo pos (starEach es X.env)).any (·.1) = false := by rfl) :
  PE X (.Call (.Name x p) (e :: es) [] pos) (tMake C sp dvs E t) := by
 intro pins s σ H Q I h
 refine wpAny_Call_Name_kw (ld_glob I hg hm ?_ hdb)
 refine PySem.W.callWith_K (h₀ := X.base) I.ok.mod.kin M.kp (thn (ha pos pins s σ H _ I h) fun us s1 ⟨vs,H1,I1,r,q⟩ => ⟨I1.kIn,?_⟩) he hpl
 exact run_make M F hr hb hd hx I1 r q
theorem pe_make0 (M : Mk X.K C f) (F : FnOk X.prog X.w X.K X.mg X.base CX k f fd ps sp) (hr : Room (k + 1) X.A) (hg : Gl X x) (hm : X.mg x = some (.ref C)) (hb : Binds X.K fd ps ds) (hd : zav dvs ds) (hx : Passes CX X E)
  (hdb : (x == ("__debug__" : Str)) = false := by decide) : PE X (.Call (.Name x p) [] [] pos) (tMake C sp dvs E tNil) := by
 intro pins s σ H Q I h
 refine wpAny_Call_Name_kw (ld_glob I hg hm ?_ hdb)
 exact PySem.W.callWith_K0 I.kIn M.kp (run_make (us := []) M F hr hb hd hx I .nil h)
end
section
variable {X : Cx} {CX : CXT} {k : Nat} {f C : Addr} {fd : FuncData} {ps ks : List Str} {sp : Sp} {E : XK} {x m : Str} {p pos apos kpos : Pos} {e o : Expr} {es : List Expr} {kws : List Keyword} {te ta : TE} {t tk : TA} {nm : Option Str}
structure KBinds (K : PySem.W.Frag) (fd : FuncData) (ps ks : List Str) (g : List Value -> List Value -> List Value) (gV : List V -> List V -> List V) : Prop where
 to : ∀ (s : Shared) (us ws : List Value),K.In s.heap -> (g us ws).length = ps.length -> BindsTo s fd ⟨us,ks.zip ws⟩ (ps.zip (g us ws))
 rel : ∀ {vs : List V} {us : List Value} {zs : List V} {ws : List Value},zav vs us -> zav zs ws -> zav (gV vs zs) (g us ws)
variable {g : List Value -> List Value -> List Value} {gV : List V -> List V -> List V}
end
structure FnScope (N P : List Str) (sc : Scope) : Prop where
 kind : sc.kind = .function
 co : sc.isCoroutine = false
 gen : sc.isGenerator = false
 nd : N.Nodup
 pre : N.take P.length = P
 par : ∀ x ∈ P,sc.names.lookup x = some .local ∨ sc.names.lookup x = some .cell
 nofree : ∀ y ∈ sc.names,y.2 ≠ .free
theorem bindL_out {kindOf : Str -> Option NameKind} {x : Str} : ∀ {binds : List (Str × Value)} {m : Str -> Option Value},(∀ v,(x,v) ∉ binds) -> bindL kindOf binds m x = m x
 | [],_,_ => rfl
 | (n,v) :: r,m,h => by
  unfold bindL
  rw [bindL_out fun w hw => h w (List.mem_cons_of_mem _ hw)]
  split
  ·have : x ≠ n := by rintro rfl; exact h v List.mem_cons_self
   simp [this]
  ·rfl
theorem bindC_out {kindOf : Str -> Option NameKind} {x : Str} : ∀ {binds : List (Str × Value)} {m : Str -> Option Value},(∀ v,(x,v) ∉ binds) -> bindC kindOf binds m x = m x
 | [],_,_ => rfl
 | (n,v) :: r,m,h => by
  unfold bindC
  rw [bindC_out fun w hw => h w (List.mem_cons_of_mem _ hw)]
  split
  ·rfl
  ·have : x ≠ n := by rintro rfl; exact h v List.mem_cons_self
   simp [this]
theorem bindL_get {kindOf : Str -> Option NameKind} {x : Str} {v : Value} : ∀ {P : List Str} {vs : List Value} {i : Nat} {m : Str -> Option Value},P.Nodup -> P[i]? = some x -> vs[i]? = some v -> kindOf x = some .local ->
  bindL kindOf (P.zip vs) m x = some v
 | [],_,_,_,_,h,_,_ => by simp at h
 | _ :: _,[],_,_,_,_,h,_ => by simp at h
 | p :: P,w :: vs,0,m,nd,h1,h2,hk => by
  simp at h1 h2; subst h1; subst h2
  show bindL kindOf ((p,w) :: P.zip vs) m p = _
  unfold bindL
  rw [bindL_out fun v hv => (List.nodup_cons.mp nd).1 (List.of_mem_zip hv).1,if_pos hk]
  simp
 | p :: P,w :: vs,i + 1,m,nd,h1,h2,hk => by
  show bindL kindOf ((p,w) :: P.zip vs) m x = _
  unfold bindL
  exact bindL_get (i := i) (List.nodup_cons.mp nd).2 (by simpa using h1) (by simpa using h2) hk
theorem bindC_get {kindOf : Str -> Option NameKind} {x : Str} {v : Value} : ∀ {P : List Str} {vs : List Value} {i : Nat} {m : Str -> Option Value},P.Nodup -> P[i]? = some x -> vs[i]? = some v -> kindOf x ≠ some .local ->
  bindC kindOf (P.zip vs) m x = some v
 | [],_,_,_,_,h,_,_ => by simp at h
 | _ :: _,[],_,_,_,_,h,_ => by simp at h
 | p :: P,w :: vs,0,m,nd,h1,h2,hk => by
  simp at h1 h2; subst h1; subst h2
  show bindC kindOf ((p,w) :: P.zip vs) m p = _
  unfold bindC
  rw [bindC_out fun v hv => (List.nodup_cons.mp nd).1 (List.of_mem_zip hv).1,if_neg hk]
  simp
 | p :: P,w :: vs,i + 1,m,nd,h1,h2,hk => by
  show bindC kindOf ((p,w) :: P.zip vs) m x = _
  unfold bindC
  exact bindC_get (i := i) (List.nodup_cons.mp nd).2 (by simpa using h1) (by simpa using h2) hk
def start (N : List Str) (vs : List V) : St := vs.map some ++ List.replicate (N.length - vs.length) none
def cxOf (CX : CXT) (P : Program) (w : World) (K : PySem.W.Frag) (mg : Str -> Option Value) (base : Heap) (N : List Str) (qual : Str) (scope : Scope) (f : Addr) (cd : Value) (A : Around) (outer : List Env) (s : Shared) (H : Hp) (E : XK) : Cx where
 prog := P
 w := w
 K := K
 mg := mg
 base := base
 A := A.deeper (envOfC qual scope s.heap.objs.size f cd)
 N := N
 s₀ := s
 H₀ := H
 env := envOfC qual scope s.heap.objs.size f cd
 outer := outer
 stack := envOfC qual scope s.heap.objs.size f cd :: outer
 ex := []
 calm := true
 fn := fun _ => true
 pn := []
 xe := fun e s' => wpAny (model P w) (A.deeper (envOfC qual scope s.heap.objs.size f cd)) (leaving (envOfC qual scope s.heap.objs.size f cd) e) (fun _ s'' => CX outer H s E e s'') (fun e' s'' => CX outer H s E e' s'') s'
theorem cell_has {sc : Scope} {n : Nat} {x : Str} (h : sc.names.lookup x = some .cell) : ∃ c,(cellsFrom n sc.names []).lookup x = some c := by
 have q := PySem.W.cellsFrom_some sc.names n [] (.inl h)
 exact Option.isSome_iff_exists.mp q
theorem inv_start {CX : CXT} {P : Program} {w : World} {K : PySem.W.Frag} {mg : Str -> Option Value} {base : Heap} {N ps : List Str} {qual : Str} {scope : Scope} {f : Addr} {cd : Value} {A : Around} {outer : List Env} {s s1 : Shared} {H : Hp} {E : XK} {us : List Value} {vs : List V}
  (S : FnScope N ps scope) (hd : A.handled = none) (e0 : Env0 P w K mg base A outer s H) (hl : vs.length = ps.length) (r : zav vs us)
  (x : InCallC s s.heap.objs.size (bindL (envOfC qual scope s.heap.objs.size f cd).kindOf (ps.zip us) fun _ => none) (cellsFrom (s.heap.objs.size + 1) scope.names []) (bindC (envOfC qual scope s.heap.objs.size f cd).kindOf (ps.zip us) fun _ => none) s1) :
  Inv (cxOf CX P w K mg base N qual scope f cd A outer s H E) [] (start N vs) H s1 := by
 have hpl : ps.length <= N.length := by have := congrArg List.length S.pre; rw [List.length_take] at this; omega
 obtain ⟨h1,tk,rfl,hk⟩ := x.done
 have noA : ∀ b : Addr,b ∉ (cxOf CX P w K mg base N qual scope f cd A outer s H E).ex := fun b z => absurd (show b ∈ ([] : List Addr) from z) (by simp)
 refine ⟨⟨e0.mod,S.kind,rfl,rfl,Nat.le_refl _,fun y z c h1 h2 => ?_,fun y hy => ?_,fun y c _ h => ?_,fun _ => hd,Around.frames_deeper e0.frames,.inr ⟨rfl,rfl⟩,fun b z => absurd z (noA b),e0.bs,e0.bsz,fun b _ _ => noA b,fun b z => absurd z (noA b),e0.funs,e0.frf⟩,
  rfl,e0.bare,Un.kept hk,⟨_,x.toInCall.ns,fun i y v h1 h2 h3 => ?_⟩,fun y c h => ⟨_,x.cell y c h⟩,e0.hok.fresh (Nat.le_refl _),fun y c h => ?_,fun p hp => absurd (show p ∈ ([] : List (Addr × Obj)) from hp) (by simp),e0.hok.kept hk,?_⟩
 ·exact name_of_addr x.apart (PySem.mem_of_lookup h1) (PySem.mem_of_lookup h2)
 ·have hy : scope.names.lookup y = some .cell ∨ scope.names.lookup y = some .free := hy
  rcases hy with hy | hy
  ·exact cell_has hy
  ·exact absurd rfl (S.nofree _ (PySem.mem_of_lookup hy))
 ·exact Nat.le_of_lt (x.above y c (PySem.mem_of_lookup h))
 ·have hi : i < vs.length := by
   unfold start at h2
   by_cases hi : i < vs.length
   ·exact hi
   ·rw [List.getElem?_append_right (by simpa using hi)] at h2
    rw [List.getElem?_replicate] at h2
    split at h2 <;> cases h2
  have ha : vs[i]? = some v := by
   unfold start at h2
   rw [List.getElem?_append_left (by simpa using hi),List.getElem?_map] at h2
   cases e : vs[i]? with
   | none => rw [e] at h2; cases h2
   | some a => rw [e] at h2; cases h2; rfl
  obtain ⟨u,hu,rv⟩ := r.get ha
  have hp : ps[i]? = some y := by
   rw [<- S.pre,List.getElem?_take_of_lt (by omega)]; exact h1
  have ndP : ps.Nodup := by rw [<- S.pre]; exact S.nd.sublist (List.take_sublist _ _)
  refine ⟨u,rv,?_⟩
  rcases S.par y (List.mem_of_getElem? hp) with k | k
  ·exact .inl ⟨k,bindL_get ndP hp hu k⟩
  ·obtain ⟨c,e⟩ := cell_has (n := s.heap.objs.size + 1) k
   refine .inr ⟨.inl k,c,e,?_⟩
   have q := x.cell y c e
   rw [bindC_get ndP hp hu (by show scope.names.lookup y ≠ _; rw [k]; decide)] at q
   exact q
 ·exact e0.hok.fresh (Nat.le_of_lt (x.above y c (PySem.mem_of_lookup h)))
 ·unfold start
  show _ = N.length
  rw [List.length_append,List.length_map,List.length_replicate]
  omega
theorem fn_of {CX : CXT} {P : Program} {w : World} {K : PySem.W.Frag} {mg : Str -> Option Value} {base : Heap} {k : Nat} {f : Addr} {name qual : Str} {params : Arguments} {body : List Stmt} {scope : Scope} {dV kV doc pm cdv ct oc : Value} {an od : Option Addr}
  {osl : Array (Option Value)} {N ps : List Str} {sp : Sp} (lk : K.lookup f = some ⟨oc,od,.func (PySem.W.fnOf name qual params body scope dV kV doc pm an cdv ct),osl⟩) (hcd : PySem.W.codeIn K cdv qual = true) (S : FnScope N ps scope)
  (len : ∀ vs H Q E,sp vs H Q E -> vs.length = ps.length)
  (hbody : ∀ (A : Around) (outer : List Env) (s : Shared) (H : Hp) (vs : List V) (Q : VK) (E : XK),Room k (A.deeper (envOfC qual scope s.heap.objs.size f cdv)) -> sp vs H Q E ->
   ∃ t,PSs (cxOf CX P w K mg base N qual scope f cdv A outer s H E) body t /\ t { nx := fun _ H' => Q .non H',rt := Q } (start N vs) H) :
  FnOk P w K mg base CX (k + 1) f (PySem.W.fnOf name qual params body scope dV kV doc pm an cdv ct) ps sp := by
 refine ⟨len,fun A outer s H args us vs Q E hr e0 hb r hsp => ?_⟩
 have hl := len _ _ _ _ hsp
 have KX : K.In s.heap := e0.mod.kin.keeps fun b o e => (e0.bs b o e).1
 have lim : s.heap.NoLimit := e0.mod.nolimit.keeps fun b o e => (e0.bs b o e).1
 have hkind : ∀ y ∈ ps.zip us,scope.names.lookup y.1 = some .local ∨ (scope.names.lookup y.1 = some .cell /\ ((cellsFrom (s.heap.objs.size + 1) scope.names []).lookup y.1).isSome = true) := fun ⟨n,v⟩ hy => by
  rcases S.par n (List.of_mem_zip hy).1 with q | q
  ·exact .inl q
  ·exact .inr ⟨q,PySem.W.cellsFrom_some _ _ _ (.inl q)⟩
 refine codeAny_call_function hr.depth (KX _ _ lk) rfl S.co S.gen rfl (PySem.W.codeRec_of KX hcd) (hb _ _ _ _ ?_)
 refine wpAny_newFunctionEnv_cells S.kind hkind fun env he s1 x => ?_
 subst he
 refine ⟨lim.keeps x.toInCall.keep,codeAny_func ?_⟩
 obtain ⟨t,ht,hq⟩ := hbody A outer s H vs Q E (hr.deeper _) hsp
 have I : Inv (cxOf CX P w K mg base N qual scope f cdv A outer s H E) [] (start N vs) H s1 := inv_start S hr.hd e0 hl r x
 refine wpAny_mono (ht [] s1 (start N vs) H _ I hq) (fun fl s' hs => ?_) fun e s' hs => hs
 have fin : ∀ {σ' : St} {H' : Hp} {v : V} {u : Value},Inv (cxOf CX P w K mg base N qual scope f cdv A outer s H E) [] σ' H' s' -> zaG v u -> Q v H' -> CE outer P w H s Q u s' :=
  fun {σ' H' v u} J rv q => ⟨v,H',J.os,J.bare,J.base,J.hok,rv,q⟩
 cases fl with
 | ret u =>
  obtain ⟨v,σ',H',J,rv,q⟩ := hs
  exact fin J rv q
 | next =>
  obtain ⟨σ',H',J,q⟩ := hs
  exact fin (v := V.non) (u := Value.none) J rfl q
 | brk =>
  obtain ⟨_,_,_,q⟩ := hs
  exact False.elim q
 | cont =>
  obtain ⟨_,_,_,q⟩ := hs
  exact False.elim q
end L2
namespace L2
open PySem PySem.Spec PyProof.Rows
section
variable {X : Cx} {x : Str} {p pos : Pos} {e : Expr} {es : List Expr} {t : TA} {id T : String} {r : List V -> Hp -> VK -> Prop}
def tCB (r : List V -> Hp -> VK -> Prop) (t : TA) : TE := fun σ H Q => t σ H fun vs H1 => r vs H1 Q
theorem pe_callB (hc : zbG X (.builtin id) r) (hg : Gl X x) (hm : X.mg x = none) (hv : bootBuiltins x = some (.builtin id)) (ha : PA X (e :: es) t) (hn : x ≠ "__name__" := by decide) (hdb : (x == ("__debug__" : Str)) = false := by decide)
  (he : starEach (e :: es) X.env = (false,eval e X.env) :: starEach es X.env := by rfl) (hpl : (backTo pos (starEach es X.env)).any (·.1) = false := by rfl) : PE X (.Call (.Name x p) (e :: es) [] pos) (tCB r t) := by
 intro pins s σ H Q I h
 refine wpAny_Call_Name_kw (ld_blt I hg hm hv ?_ hn hdb)
 exact PyProof.Rows.callWith_builtin1 (thn (ha pos pins s σ H _ I h) fun us s1 ⟨vs,H1,I1,r1,q1⟩ => hc pins s1 σ H1 vs us Q I1 r1 q1) he hpl
theorem pe_callTy (hc : zbG X (.type T) r) (hg : Gl X x) (hm : X.mg x = none) (hv : bootBuiltins x = some (.type T)) (ha : PA X (e :: es) t) (hn : x ≠ "__name__" := by decide) (hdb : (x == ("__debug__" : Str)) = false := by decide)
  (he : starEach (e :: es) X.env = (false,eval e X.env) :: starEach es X.env := by rfl) (hpl : (backTo pos (starEach es X.env)).any (·.1) = false := by rfl) : PE X (.Call (.Name x p) (e :: es) [] pos) (tCB r t) := by
 intro pins s σ H Q I h
 refine wpAny_Call_Name_kw (ld_blt I hg hm hv ?_ hn hdb)
 exact PyProof.Rows.callWith_type1 (thn (ha pos pins s σ H _ I h) fun us s1 ⟨vs,H1,I1,r1,q1⟩ => hc pins s1 σ H1 vs us Q I1 r1 q1) he hpl
end
end L2
namespace HT
open PySem PyProof.Rows
section
open PySem.SeqAt
open PySem.AutoSeq1 (wpAny_loadPart')
open PySem.MeetsSeq PySem.MeetsSeq2 PySem.MeetsSeq3
end
section
variable {prog : Program} {w : World} {A : Around} {E : Value -> Shared -> Prop} {s : Shared}
def sIx (n d : Nat) : Option Int -> Nat
 | none => d
 | some v => if v < 0 then (v + (n : Int)).toNat else min v.toNat n
theorem sIx_le (n d : Nat) (hd : d <= n) (o : Option Int) : sIx n d o <= n := by
 cases o with
 | none => exact hd
 | some v =>
  show (if v < 0 then (v + (n : Int)).toNat else min v.toNat n) <= n
  by_cases hv : v < 0
  ·rw [if_pos hv]; omega
  ·rw [if_neg hv]; exact Nat.min_le_right _ _
theorem clip_eq (v : Int) (n d : Nat) : (if v < 0 then max (v + (n : Int)) 0 else min v (n : Int)) = ((sIx n d (some v) : Nat) : Int) := by
 show (if v < 0 then max (v + (n : Int)) 0 else min v (n : Int)) = (((if v < 0 then (v + (n : Int)).toNat else min v.toNat n) : Nat) : Int)
 by_cases hv : v < 0
 ·simp only [if_pos hv]; omega
 ·simp only [if_neg hv]; omega
theorem adjust_gen (lo hi : Option Int) (n : Nat) : Builtin.Slice.sliceAdjust lo hi 1 (n : Int) = (((sIx n 0 lo : Nat) : Int),((sIx n n hi : Nat) : Int)) := by
 have h1 : ¬ ((1 : Int) < 0) := by omega
 unfold Builtin.Slice.sliceAdjust
 simp only [h1,if_false]
 refine Prod.ext ?_ ?_
 ·cases lo with
  | none => rfl
  | some v => exact clip_eq v n 0
 ·cases hi with
  | none => rfl
  | some v => exact clip_eq v n n
theorem places_gen (i j : Nat) : Builtin.Slice.slicePlaces (i : Int) (j : Int) 1 = j - i := by
 unfold Builtin.Slice.slicePlaces
 have h1 : (1 : Int) > 0 := by omega
 simp only [h1,if_true,Int.ediv_one]
 split <;> omega
theorem slicePart_ {v : Value} {o : Option Int} {Q : Option Int -> Shared -> Prop} (p : IsPart v o) (h : Q o s) : wpAny (model prog w) A (Builtin.Slice.slicePartIndex v) Q E s := by
 cases p with
 | none => exact slicePart_none h
 | int i t => exact slicePart_int h
theorem sliceApplied_gen {sl : Addr} {vl vu : Value} {lo hi : Option Int} {n : Nat} {Q : Int × Int × Nat -> Shared -> Prop} (hs : s.heap.IsSliceOf sl vl vu .none) (pl : IsPart vl lo) (pu : IsPart vu hi)
  (h : Q (((sIx n 0 lo : Nat) : Int),1,sIx n n hi - sIx n 0 lo) s) : wpAny (model prog w) A (Builtin.Slice.sliceApplied (.ref sl) (pure (n : Int))) Q E s := by
 obtain ⟨os,hos,hcs,hds⟩ := id hs
 unfold Builtin.Slice.sliceApplied Builtin.Slice.sliceFields
 refine wpAny_bind (wpAny_bind (wpAny_field hos hds (x := vl) rfl (wpAny_bind (wpAny_field hos hds (x := vu) rfl (wpAny_bind (wpAny_field hos hds (x := .none) rfl (wpAny_pure ?_)))))))
 refine wpAny_bind (slicePart_none ?_)
 show wpAny _ _ (if ((1 : Int) == 0) = true then _ else _) _ _ s
 rw [if_neg (by decide)]
 refine wpAny_bind (slicePart_ pl (wpAny_bind (slicePart_ pu (wpAny_bind (wpAny_pure ?_)))))
 show wpAny _ _ (match Builtin.Slice.sliceAdjust lo hi 1 (n : Int) with | (lo,hi) => pure (lo,(1 : Int),Builtin.Slice.slicePlaces lo hi 1)) _ _ s
 rw [adjust_gen lo hi n]
 show wpAny _ _ (pure (((sIx n 0 lo : Nat) : Int),(1 : Int),Builtin.Slice.slicePlaces ((sIx n 0 lo : Nat) : Int) ((sIx n n hi : Nat) : Int) 1)) _ _ s
 rw [places_gen]
 exact wpAny_pure h
theorem pick_gen (xs : Array Value) (i k : Nat) : ((List.range k).filterMap fun (m : Nat) => xs[((i : Int) + (m : Int) * 1).toNat]?).toArray = ((xs.toList.drop i).take k).toArray := by
 have e : (fun (m : Nat) => xs[((i : Int) + (m : Int) * 1).toNat]?) = fun m => xs[i + m]? := by
  funext m
  have : ((i : Int) + (m : Int) * 1).toNat = i + m := by omega
  rw [this]
 rw [e]
 have := pick_run xs i k
 rw [List.filterMap_map] at this
 have e2 : ((fun x => xs[x]?) ∘ fun x => i + x) = fun m => xs[i + m]? := rfl
 rw [e2] at this
 rw [this]
theorem getItem_tuple_cut {t sl : Addr} {items : Array Value} {vl vu : Value} {lo hi : Option Int} {Q : Value -> Shared -> Prop} (ht : IsTup s.heap t items) (hs : s.heap.IsSliceOf sl vl vu .none) (pl : IsPart vl lo) (pu : IsPart vu hi)
  (hw : ¬ (sIx items.size 0 lo = 0 /\ sIx items.size items.size hi = items.size))
  (h : Q (.ref s.heap.objs.size) { s with heap := s.heap.push { cls := .type "tuple",data := .seq ((items.toList.drop (sIx items.size 0 lo)).take (sIx items.size items.size hi - sIx items.size 0 lo)).toArray } })
  (hsz : items.size <= sizeLine) : wpAny (model prog w) A (getItem (.ref t) (.ref sl)) Q E s := by
 have htake : sizeOk (.seq ((items.toList.drop (sIx items.size 0 lo)).take (sIx items.size items.size hi - sIx items.size 0 lo)).toArray) := by
  show ((items.toList.drop (sIx items.size 0 lo)).take (sIx items.size items.size hi - sIx items.size 0 lo)).toArray.size <= sizeLine
  rw [List.size_toArray,List.length_take,List.length_drop,Array.length_toList]
  omega
 have hj : sIx items.size items.size hi <= items.size := sIx_le _ _ (Nat.le_refl _) hi
 obtain ⟨os,hos,hcs,hds⟩ := id hs
 have hTs : s.TypeIs (.ref sl) "slice" := ⟨os,hos,hcs⟩
 unfold getItem
 try with_reducible refine wpAny_holding ?_
 first | refine wpAny_bind (wpAny_pure ?_) | skip
 refine wpAny_bind (wpAny_sequenceKey ht.typeIs (by decide) ?_)
 refine wpAny_bind (wpAny_callSpecial?_slot (name := Str.ofString "__getitem__") ht.typeIs PyProof.Rows.slot_tuple_getitem
  (wpAny_call_entry PyProof.Rows.slot_tuple_getitem ht.typeIs entry_tuple_getitem ?_ (args_tuple_getitem _ _)))
 show wpAny _ _ (Builtin.Tuple.tupleItemsOf (.ref t) >>= _) _ _ s
 refine wpAny_bind (tupleItemsOf_ ht ?_)
 refine wpAny_bind (wpAny_typeOf hTs ?_)
 rw [if_pos (by decide)]
 refine wpAny_bind (sliceApplied_gen hs pl pu ?_)
 have hno : ¬ ((((sIx items.size 0 lo : Nat) : Int) == 0 && (1 : Int) == 1 && (sIx items.size items.size hi - sIx items.size 0 lo) == items.size) = true) := by
  intro q
  rw [Bool.and_eq_true,Bool.and_eq_true] at q
  have q1 : ((sIx items.size 0 lo : Nat) : Int) = 0 := eq_of_beq q.1.1
  have q2 : sIx items.size items.size hi - sIx items.size 0 lo = items.size := eq_of_beq q.2
  exact hw ⟨by omega,by omega⟩
 show wpAny _ _ (if (((sIx items.size 0 lo : Nat) : Int) == 0 && (1 : Int) == 1 && (sIx items.size items.size hi - sIx items.size 0 lo) == items.size) = true then _ else _) _ _ s
 rw [if_neg hno,pick_gen]
 first
  | exact wpAny_bind (m := Builtin.Tuple.tupleExact _) (wpAny_newObj_type (wpAny_pure ⟨_,rfl,wpAny_pure h⟩) htake)
  | exact wpAny_bind (m := Builtin.Tuple.tupleExact _) (wpAny_newObj_type (wpAny_bind (wpAny_pure (wpAny_pure ⟨_,rfl,wpAny_pure h⟩))) htake)
  | exact wpAny_bind (wpAny_bind (m := Builtin.Tuple.tupleExact _) (wpAny_newObj_type (wpAny_pure (wpAny_pure ⟨_,rfl,wpAny_pure h⟩)) htake))
  | exact wpAny_bind (wpAny_bind (m := Builtin.Tuple.tupleExact _) (wpAny_newObj_type (wpAny_pure ⟨_,rfl,wpAny_pure h⟩) htake))
end
end HT
namespace L2
open PySem PySem.Spec PyProof.Rows
abbrev TO := St -> Hp -> (Option Int -> Hp -> Prop) -> Prop
def PO (X : Cx) (e : Option Expr) (t : TO) : Prop :=
 ∀ (pins : List (Addr × Obj)) (s : Shared) (σ : St) (H : Hp) (Q : Option Int -> Hp -> Prop),Inv X pins σ H s -> t σ H Q ->
  wpAny (model X.prog X.w) X.A (evalPart e X.env) (fun u s' => ∃ o H',Inv X pins σ H' s' /\ IsPart u o /\ Q o H') X.xe s
def tNoPart : TO := fun _ H Q => Q none H
def tPart (t : TE) : TO := fun σ H Q => t σ H fun x H1 => ∃ i,x = .int i /\ Q (some i) H1
section
variable {X : Cx} {e : Expr} {te : TE} {lo hi : Option Expr} {tl th : TO} {pos p2 : Pos}
theorem po_none : PO X none tNoPart := by
 intro pins s σ H Q I h
 rw [evalPart_none]
 exact wpAny_pure ⟨none,H,I,.none,h⟩
theorem po_some (h : PE X e te) : PO X (some e) (tPart te) := by
 intro pins s σ H Q I hw
 rw [evalPart_some]
 refine thn (h pins s σ H _ I hw) fun u s1 ⟨x,H1,I1,r1,q1⟩ => ?_
 obtain ⟨i,rfl,q⟩ := q1
 obtain ⟨t,rfl⟩ := r1
 exact ⟨some i,H1,I1,.int i t,q⟩
def SlR (X : Cx) (r : V -> Option Int -> Option Int -> Hp -> VK -> Prop) : Prop :=
 ∀ (pins : List (Addr × Obj)) (s : Shared) (σ : St) (H : Hp) (x : V) (v vl vu : Value) (lo hi : Option Int) (sl : Addr) (Q : VK),Inv X pins σ H s -> zaG x v -> s.heap.IsSliceOf sl vl vu .none -> IsPart vl lo -> IsPart vu hi -> r x lo hi H Q ->
  ∃ T id,typeLookup (.type T) "__getitem__" = pure (some (.builtin id)) /\ s.TypeIs v T /\ wpAny (model X.prog X.w) X.A (getItem v (.ref sl)) (EP X pins σ Q) X.xe s
def tSl (r : V -> Option Int -> Option Int -> Hp -> VK -> Prop) (te : TE) (tl th : TO) : TE := fun σ H Q => te σ H fun x H1 => tl σ H1 fun l H2 => th σ H2 fun u H3 => r x l u H3 Q
theorem pe_slice {r : V -> Option Int -> Option Int -> Hp -> VK -> Prop} (hr : SlR X r) (he : PE X e te) (hl : PO X lo tl) (hu : PO X hi th) : PE X (.Subscript e (.Slice lo hi none p2) pos) (tSl r te tl th) := by
 intro pins s σ H Q I h
 refine Subscript_ (thn (he pins s σ H _ I h) fun v s1 ⟨x,H1,I1,r1,q1⟩ => ?_)
 refine wpAny_Slice (thn (hl pins s1 σ H1 _ I1 q1) fun vl s2 ⟨l,H2,I2,pl,q2⟩ => thn (hu pins s2 σ H2 _ I2 q2) fun vu s3 ⟨u,H3,I3,pu,q3⟩ => ?_)
 rw [evalPart_none]
 refine wpAny_pure ?_
 have I4 : Inv X pins σ H3 { s3 with heap := s3.heap.push { cls := .type "slice",data := .fields #[vl,vu,.none] } } := I3.kept (t' := s3.toks) fun b ob q => Heap.get?_push_of_some _ q
 obtain ⟨T,id,hT,ht,hg⟩ := hr pins { s3 with heap := s3.heap.push { cls := .type "slice",data := .fields #[vl,vu,.none] } } σ H3 x v vl vu l u s3.heap.objs.size Q I4 r1 (Heap.IsSliceOf.new ..) pl pu q3
 show wpAny (model X.prog X.w) X.A (subscriptTail e (.Slice lo hi none p2) v (.ref s3.heap.objs.size)) (EP X pins σ Q) X.xe { s3 with heap := s3.heap.push { cls := .type "slice",data := .fields #[vl,vu,.none] } }
 exact tail_any (ops := [.ref s3.heap.objs.size,v]) ht hT hg (by with_unfolding_all rfl)
def cutV (xs : List V) (lo hi : Option Int) : List V := (xs.drop (HT.sIx xs.length 0 lo)).take (HT.sIx xs.length xs.length hi - HT.sIx xs.length 0 lo)
theorem cutV_length (xs : List V) (lo hi : Option Int) : (cutV xs lo hi).length <= xs.length := by
 unfold cutV
 rw [List.length_take,List.length_drop]
 omega
def rSlT (K : PySem.W.Frag) : V -> Option Int -> Option Int -> Hp -> VK -> Prop := fun x lo hi H Q => ∃ a xs,x = .ref a /\ SqT K H a xs /\
 ¬ (HT.sIx xs.length 0 lo = 0 /\ HT.sIx xs.length xs.length hi = xs.length) /\ ∀ p,H p = none -> Q (.ref p) (upd H p (.tup (cutV xs lo hi)))
theorem sl_tup : SlR X (rSlT X.K) := by
 intro pins s σ H x v vl vu lo hi sl Q I rx hs pl pu h
 obtain ⟨a,xs,rfl,hx,hw,q⟩ := h
 cases rx
 obtain ⟨its,r,ht,hz⟩ := I.tuple hx
 have hlen : its.toArray.size = xs.length := by rw [List.size_toArray]; exact r.length.symm
 refine ⟨"tuple",_,PyProof.Rows.slot_tuple_getitem.lookup,ht.typeIs,?_⟩
 refine HT.getItem_tuple_cut ht hs pl pu (by rw [hlen]; exact hw) ?_ (by rw [hlen]; exact hz)
 rw [hlen]
 refine ⟨.ref s.heap.objs.size,_,I.laid (t' := s.toks) (o := .tup (cutV xs lo hi)) (fun b ob q => Heap.get?_push_of_some _ q) (Nat.le_refl _) ?_,rfl,q _ (I.hok.fresh (Nat.le_refl _))⟩
 exact ⟨Nat.le_trans (cutV_length xs lo hi) hz,_,(r.drop (HT.sIx xs.length 0 lo)).take (HT.sIx xs.length xs.length hi - HT.sIx xs.length 0 lo),IsTup.new _ _⟩
end
end L2
namespace L2
open PySem PySem.Spec PyProof.Rows
def ixN (n : Nat) (i : Int) : Option Nat := if 0 <= i then (if i < n then some i.toNat else none) else if -(n : Int) <= i then some (i + n).toNat else none
def atI {α : Type} (xs : List α) (i : Int) : Option α := (ixN xs.length i).bind fun j => xs[j]?
theorem ixN_seq {n : Nat} {i : Int} {j : Nat} (h : ixN n i = some j) : seqIndex? i n = some j /\ j < n /\ -(n : Int) <= i /\ i < n := by
 unfold ixN at h
 by_cases h0 : 0 <= i
 ·rw [if_pos h0] at h
  by_cases h1 : i < n
  ·rw [if_pos h1] at h
   have e : i.toNat = j := Option.some.inj h
   exact ⟨by rw [seqIndex_of h0 h1,e],by omega,by omega,h1⟩
  ·rw [if_neg h1] at h; cases h
 ·rw [if_neg h0] at h
  by_cases h1 : -(n : Int) <= i
  ·rw [if_pos h1] at h
   have e : (i + n).toNat = j := Option.some.inj h
   exact ⟨by rw [seqIndex_neg (by omega) h1,e],by omega,h1,by omega⟩
  ·rw [if_neg h1] at h; cases h
theorem atI_get {α : Type} {xs : List α} {i : Int} {v : α} (h : atI xs i = some v) : ∃ j,seqIndex? i xs.length = some j /\ xs[j]? = some v /\ j < xs.length /\ -(xs.length : Int) <= i /\ i < xs.length := by
 unfold atI at h
 cases e : ixN xs.length i with
 | none => rw [e] at h; cases h
 | some j =>
  rw [e] at h
  obtain ⟨h1,h2,h3,h4⟩ := ixN_seq e
  exact ⟨j,h1,h,h2,h3,h4⟩
theorem zb1 {α : Type} {xs : List α} {j : Nat} {v : α} (h : xs[j]? = some v) : atI xs (j : Int) = some v := by
 have hj : j < xs.length := (List.getElem?_eq_some_iff.mp h).1
 have e : ixN xs.length (j : Int) = some j := by
  unfold ixN
  rw [if_pos (by omega),if_pos (by omega)]; simp
 unfold atI; rw [e]; exact h
def PlainIx (b : Expr) : Prop := ∀ o i,subscripted b false o i = operate [o,i] (getItem o i)
def IxR (X : Cx) (r : R2) : Prop :=
 ∀ (value slice : Expr) (pins : List (Addr × Obj)) (s : Shared) (σ : St) (H : Hp) (x y : V) (v u : Value) (Q : VK),Inv X pins σ H s -> zaG x v -> zaG y u -> r x y H Q ->
  subscripted slice false v u = operate [v,u] (getItem v u) -> wpAny (model X.prog X.w) X.A (subscriptTail value slice v u) (EP X pins σ Q) X.xe s
def MtR (X : Cx) (id : String) (r : V -> List V -> Hp -> VK -> Prop) : Prop :=
 ∀ (pins : List (Addr × Obj)) (s : Shared) (σ : St) (H : Hp) (x : V) (xs : List V) (v : Value) (us : List Value) (Q : VK),Inv X pins σ H s -> zaG x v -> zav xs us -> r x xs H Q ->
  wpAny (model X.prog X.w) X.A (call (.builtin id) (v :: us)) (EP X pins σ Q) X.xe s
section
variable {X : Cx} {a b : Expr} {ta tb : TE} {pos : Pos}
theorem IxR.or {r r' : R2} (h : IxR X r) (h' : IxR X r') : IxR X (fun x y H Q => r x y H Q ∨ r' x y H Q) := by
 intro value slice pins s σ H x y v u Q I rx ry q hs
 rcases q with q | q
 ·exact h value slice pins s σ H x y v u Q I rx ry q hs
 ·exact h' value slice pins s σ H x y v u Q I rx ry q hs
theorem pe_ix {r : R2} (hr : IxR X r) (ha : PE X a ta) (hb : PE X b tb) (hs : PlainIx b) : PE X (.Subscript a b pos) (tOp r ta tb) := by
 intro pins s σ H Q I h
 exact Subscript_ (binT ha hb I h fun v u s2 x y H2 I2 rx ry q => hr a b pins s2 σ H2 x y v u Q I2 rx ry q (hs _ _))
def rIxL (K : PySem.W.Frag) : R2 := fun x y H Q => ∃ p xs i v,x = .ref p /\ y = .int i /\ SqL K H p xs /\ atI xs i = some v /\ Q v H
def rIxT (K : PySem.W.Frag) : R2 := fun x y H Q => ∃ p xs i v,x = .ref p /\ y = .int i /\ SqT K H p xs /\ atI xs i = some v /\ Q v H
theorem ix_list : IxR X (rIxL X.K) := by
 intro value slice pins s σ H x y v u Q I rx ry h hs
 obtain ⟨p,xs,i,z,rfl,rfl,hq,he,q⟩ := h
 cases rx
 obtain ⟨t,rfl⟩ := ry
 obtain ⟨its,r,pl,hz⟩ := I.list hq
 obtain ⟨j,h1,h2,h3,h4,h5⟩ := atI_get he
 obtain ⟨w,ew,rw'⟩ := r.get h2
 have hl := r.length
 have hn := line63
 have fin : EP X pins σ Q w s := ⟨z,H,I,rw',q⟩
 by_cases h0 : 0 <= i
 ·have hj : i.toNat = j := by
   rw [seqIndex_of h0 h5] at h1
   exact Option.some.inj h1
  exact item_listR pl.isList h0 (by omega) (by rw [hj]; simpa using ew) fin hs
 ·have hj : (i + (its.toArray.size : Int)).toNat = j := by
   rw [seqIndex_neg (by omega) h4] at h1
   rw [List.size_toArray,<- hl]
   exact Option.some.inj h1
  exact subscriptTail_builtinR (x := w) pl.isList.typeIs slot_list_getitem.lookup
   (wpAny_getItem_list_neg (Q := fun r s' => r = w /\ EP X pins σ Q r s') pl.isList (by omega) (by rw [List.size_toArray] <;> omega) (by omega) (by rw [hj]; simpa using ew) ⟨rfl,fin⟩) hs
theorem ix_tup : IxR X (rIxT X.K) := by
 intro value slice pins s σ H x y v u Q I rx ry h hs
 obtain ⟨p,xs,i,z,rfl,rfl,hq,he,q⟩ := h
 cases rx
 obtain ⟨t,rfl⟩ := ry
 obtain ⟨its,r,pl,hz⟩ := I.tuple hq
 obtain ⟨j,h1,h2,h3,h4,h5⟩ := atI_get he
 obtain ⟨w,ew,rw'⟩ := r.get h2
 have hl := r.length
 have hn := line63
 have fin : EP X pins σ Q w s := ⟨z,H,I,rw',q⟩
 exact subscriptTail_builtinR (x := w) pl.typeIs slot_tuple_getitem.lookup
  (getItem_tuple (j := j) (Q := fun r s' => r = w /\ EP X pins σ Q r s') pl (by omega) (by omega) (by rw [List.size_toArray,<- hl]; exact h1) (by simpa using ew) ⟨rfl,fin⟩) hs
theorem mapSeq_set (its : List Value) (n j : Nat) (u : Value) : Obj.mapSeq (·.setIfInBounds j u) { cls := .type "list",data := .seq its.toArray n } = { cls := .type "list",data := .seq (its.set j u).toArray n } := by
 simp [Obj.mapSeq]
theorem Inv.lst {pins : List (Addr × Obj)} {σ : St} {H : Hp} {s : Shared} {p : Addr} {xs : List V} (I : Inv X pins σ H s) (h : H p = some (.lst xs)) :
  ∃ (its : List Value) (n : Nat),zav xs its /\ s.heap.get? p = some { cls := .type "list",data := .seq its.toArray n } /\ xs.length <= sizeLine := by
 obtain ⟨z,its,n,r,e⟩ := I.hok p _ h
 exact ⟨its,n,r,e,z⟩
theorem Inv.lstUpd {pins : List (Addr × Obj)} {σ : St} {H : Hp} {s : Shared} {p : Addr} {xs ys : List V} {its its' : List Value} {n n' : Nat} {f : Obj -> Obj} (I : Inv X pins σ H s) (h : H p = some (.lst xs))
  (ho : s.heap.get? p = some { cls := .type "list",data := .seq its.toArray n }) (hf : f { cls := .type "list",data := .seq its.toArray n } = { cls := .type "list",data := .seq its'.toArray n' }) (r : zav ys its') (hz : ys.length <= sizeLine) (t : Nat) :
  Inv X pins σ (upd H p (.lst ys)) { s with heap := s.heap.update p f,toks := t } := by
 have e : (s.heap.update p f).get? p = some { cls := .type "list",data := .seq its'.toArray n' } := by
  rw [Heap.get?_update_self f ho (by rw [hf] <;> rfl),hf]
 refine I.write (x := p) (e := p) (by rw [h]; trivial) (.inl rfl) (fun b u hb q => (Heap.get?_update_other _ _ (Ne.symm hb)).trans q) ⟨_,e⟩ ?_
 exact ⟨hz,its',n',r,e⟩
def rSetL : V -> V -> V -> Hp -> (Hp -> Prop) -> Prop := fun o i v H Q => ∃ p xs k j,o = .ref p /\ i = .int k /\ H p = some (.lst xs) /\ ixN xs.length k = some j /\ Q (upd H p (.lst (xs.set j v)))
theorem set_list : PSet X rSetL := by
 intro pins s σ H o i v ov iv u Q I ro ri rv h
 obtain ⟨p,xs,k,j,rfl,rfl,hp,hj,q⟩ := h
 cases ro
 obtain ⟨t,rfl⟩ := ri
 obtain ⟨its,n,r,ho,hz⟩ := I.lst hp
 obtain ⟨h1,h2,h3,h4⟩ := ixN_seq hj
 have hl := r.length
 have hn := line63
 have I' : Inv X pins σ (upd H p (.lst (xs.set j v))) { s with heap := s.heap.update p (Obj.mapSeq (·.setIfInBounds j u)) } :=
  I.lstUpd hp ho (mapSeq_set its n j u) (r.set rv j) (by rw [List.length_set]; exact hz) s.toks
 by_cases h0 : 0 <= k
 ·have hk : k.toNat = j := by
   rw [seqIndex_of h0 h4] at h1
   exact Option.some.inj h1
  exact PySem.W.ki_setAt ho h0 (by omega) (by rw [List.size_toArray,<- hl]; exact h4) (by rw [hk]; exact ⟨_,I',q⟩)
 ·have hk : (k + (its.toArray.size : Int)).toNat = j := by
   rw [seqIndex_neg (by omega) h3] at h1
   rw [List.size_toArray,<- hl]
   exact Option.some.inj h1
  exact PySem.W.ki_setBack ho (by omega) (by rw [List.size_toArray,<- hl]; exact h3) (by omega) (by rw [hk]; exact ⟨_,I',q⟩)
theorem slice_bounds (lo hi : Option Int) (n : Nat) : (sliceBounds lo hi none n).1 = ((HT.sIx n 0 lo : Nat) : Int) /\ (sliceBounds lo hi none n).2.1 = ((HT.sIx n n hi : Nat) : Int) /\ (sliceBounds lo hi none n).2.2 = 1 := by
 refine ⟨?_,?_,rfl⟩
 ·cases lo with
  | none => simp [sliceBounds,HT.sIx]
  | some i =>
   simp only [sliceBounds,HT.sIx,Option.getD_none,show (1 : Int) > 0 by decide,if_true]
   by_cases h : i < 0
   ·simp only [h,if_true] <;> omega
   ·simp only [h,if_false] <;> omega
 ·cases hi with
  | none => simp [sliceBounds,HT.sIx]
  | some i =>
   simp only [sliceBounds,HT.sIx,Option.getD_none,show (1 : Int) > 0 by decide,if_true]
   by_cases h : i < 0
   ·simp only [h,if_true] <;> omega
   ·simp only [h,if_false] <;> omega
theorem slicePick_cut (its : List Value) (lo hi : Option Int) : slicePick its.toArray lo hi none = ((its.drop (HT.sIx its.length 0 lo)).take (HT.sIx its.length its.length hi - HT.sIx its.length 0 lo)).toArray := by
 obtain ⟨h1,h2,h3⟩ := slice_bounds lo hi its.toArray.size
 unfold slicePick
 rw [h1,h2,h3]
 simp only [sliceRange_one,pick_run,List.size_toArray] <;> rfl
def rSlL (K : PySem.W.Frag) : V -> Option Int -> Option Int -> Hp -> VK -> Prop := fun x lo hi H Q => ∃ a xs,x = .ref a /\ SqL K H a xs /\ ∀ p,H p = none -> Q (.ref p) (upd H p (.lst (cutV xs lo hi)))
theorem sl_list : SlR X (rSlL X.K) := by
 intro pins s σ H x v vl vu lo hi sl Q I rx hs pl pu h
 obtain ⟨a,xs,rfl,hx,q⟩ := h
 cases rx
 obtain ⟨its,r,ht,hz⟩ := I.list hx
 have hlen := r.length
 refine ⟨"list",_,slot_list_getitem.lookup,ht.isList.typeIs,?_⟩
 refine wpAny_getItem_list_slice ht.isList hs pl pu .none (by simp) ?_ (by rw [List.size_toArray] <;> omega)
 rw [slicePick_cut,<- hlen]
 refine ⟨.ref s.heap.objs.size,_,I.laid (t' := s.toks) (o := .lst (cutV xs lo hi)) (fun b ob q => Heap.get?_push_of_some _ q) (Nat.le_refl _) ?_,rfl,q _ (I.hok.fresh (Nat.le_refl _))⟩
 exact ⟨Nat.le_trans (cutV_length xs lo hi) hz,_,0,(r.drop (HT.sIx xs.length 0 lo)).take (HT.sIx xs.length xs.length hi - HT.sIx xs.length 0 lo),Heap.get?_push_size _ rfl⟩
theorem call_len_seq : zbG X (.builtin "len") (fun xs H Q => ∃ p ys,xs = [.ref p] /\ (SqL X.K H p ys ∨ SqT X.K H p ys) /\ Q (.int ys.length) H) := by
 intro pins s σ H xs us Q I r h
 obtain ⟨p,ys,rfl,hq,q⟩ := h
 obtain ⟨u,rfl,rx⟩ := vals1 r
 cases rx
 have hn := line63
 rcases hq with hq | hq
 ·obtain ⟨its,r',pl,hz⟩ := I.list hq
  have hlen := r'.length
  exact Calls.call_len_list pl.isList (by simp only [List.size_toArray] <;> omega) ⟨.int ys.length,H,I.tok _,⟨s.toks + 1,by rw [List.size_toArray,hlen]⟩,q⟩
 ·obtain ⟨its,r',pl,hz⟩ := I.tuple hq
  have hlen := r'.length
  exact len_tuple pl (by simp only [List.size_toArray] <;> omega) ⟨.int ys.length,H,I.tok _,⟨s.toks + 1,by rw [List.size_toArray,hlen]⟩,q⟩
theorem zbG.or {f : Value} {r r' : List V -> Hp -> VK -> Prop} (h : zbG X f r) (h' : zbG X f r') : zbG X f (fun xs H Q => r xs H Q ∨ r' xs H Q) := by
 intro pins s σ H xs us Q I rs q
 rcases q with q | q
 ·exact h pins s σ H xs us Q I rs q
 ·exact h' pins s σ H xs us Q I rs q
theorem call_list_of : zbG X (.type "list") (fun xs H Q => ∃ p ys,xs = [.ref p] /\ (SqL X.K H p ys ∨ SqT X.K H p ys) /\ ∀ l,H l = none -> Q (.ref l) (upd H l (.lst ys))) := by
 intro pins s σ H xs us Q I r h
 obtain ⟨p,ys,rfl,hq,q⟩ := h
 obtain ⟨u,rfl,rx⟩ := vals1 r
 cases rx
 have fin : ∀ (its : List Value),zav ys its -> ys.length <= sizeLine -> ∀ (h' : Heap) (c' : Nat),(∀ b o',s.heap.get? b = some o' -> h'.get? b = some o') ->
   h'.get? s.heap.objs.size = some { cls := .type "list",dict := none,data := .seq its.toArray c',slots := #[] } -> EP X pins σ Q (.ref s.heap.objs.size) { s with heap := h' } := fun its r' hz h' c' kp e =>
  ⟨.ref s.heap.objs.size,_,I.laid (t' := s.toks) kp (Nat.le_refl _) (show za2 X.prog X.w _ h' _ (.lst ys) from ⟨hz,its,c',r',e⟩),rfl,q _ (I.hok.fresh (Nat.le_refl _))⟩
 rcases hq with hq | hq
 ·obtain ⟨its,r',pl,hz⟩ := I.list hq
  have hlen := r'.length
  obtain ⟨o,ho,hc,n,hd⟩ := pl.isList
  exact call_list_seq p (.inl rfl) ho hc hd (fun h' c' kp e => fin its r' hz h' c' kp e) (by simp only [List.size_toArray] <;> omega)
 ·obtain ⟨its,r',pl,hz⟩ := I.tuple hq
  have hlen := r'.length
  obtain ⟨o,ho,hc,n,hd⟩ := pl
  exact call_list_seq p (.inr rfl) ho hc hd (fun h' c' kp e => fin its r' hz h' c' kp e) (by simp only [List.size_toArray] <;> omega)
theorem call_tuple_of : zbG X (.type "tuple") (fun xs H Q => ∃ p ys,xs = [.ref p] /\ ((SqL X.K H p ys /\ ∀ l,H l = none -> Q (.ref l) (upd H l (.tup ys))) ∨ (SqT X.K H p ys /\ Q (.ref p) H))) := by
 intro pins s σ H xs us Q I r h
 obtain ⟨p,ys,rfl,h⟩ := h
 obtain ⟨u,rfl,rx⟩ := vals1 r
 cases rx
 rcases h with ⟨hq,q⟩ | ⟨hq,q⟩
 ·obtain ⟨its,r',pl,hz⟩ := I.list hq
  have hlen := r'.length
  refine call_tuple_list pl.isList (fun h' kp => ?_) (by simp only [List.size_toArray] <;> omega)
  have I1 : Inv X pins σ H { s with heap := h' } := I.kept (t' := s.toks) kp
  have I2 : Inv X pins σ (upd H h'.objs.size (.tup ys)) { s with heap := h'.push { cls := .type "tuple",data := .seq its.toArray } } :=
   I1.laid (t' := s.toks) (fun b o e => Heap.get?_push_of_some _ e) (Nat.le_refl _) (show za2 X.prog X.w _ _ _ (.tup ys) from ⟨hz,its,r',IsTup.new _ _⟩)
  exact ⟨.ref h'.objs.size,_,I2,rfl,q _ (I1.hok.fresh (Nat.le_refl _))⟩
 ·obtain ⟨its,r',pl,hz⟩ := I.tuple hq
  exact call_tuple_same pl ⟨.ref p,H,I,rfl,q⟩
def tyV (K : PySem.W.Frag) (T : String) (x : V) (H : Hp) : Prop := match x with
 | .str _ => T = "str"
 | .int _ => T = "int"
 | .ref p => (T = "list" /\ ∃ xs,SqL K H p xs) ∨ (T = "tuple" /\ ∃ o,K.lookup p = some o /\ o.cls = .type "tuple" /\ o.dict = none) ∨
   (T = "dict" /\ ((∃ kvs,H p = some (.dK kvs)) ∨ ∃ kvs,H p = some (.dT kvs))) ∨ (T = "set" /\ ∃ S n,H p = some (.set S n))
 | _ => False
theorem tyV_is {pins : List (Addr × Obj)} {σ : St} {H : Hp} {s : Shared} {T : String} {x : V} {v : Value} (I : Inv X pins σ H s) (r : zaG x v) (ty : tyV X.K T x H) :
  s.TypeIs v T /\ ∀ a,v = .ref a -> ∃ ob,s.heap.get? a = some ob /\ ob.dict = none := by
 cases x with
 | str z =>
  obtain ⟨t,rfl⟩ := r
  cases (show T = "str" from ty)
  exact ⟨typeIs_str s z t,fun _ e => nomatch e⟩
 | int i =>
  obtain ⟨t,rfl⟩ := r
  cases (show T = "int" from ty)
  exact ⟨typeIs_int s i t,fun _ e => nomatch e⟩
 | ref p =>
  cases r
  rcases ty with ⟨rfl,xs,hq⟩ | ⟨rfl,o,hk,hc,hd⟩ | ⟨rfl,hk⟩ | ⟨rfl,S,n,hk⟩
  ·obtain ⟨its,_,pl,_⟩ := I.list hq
   refine ⟨pl.isList.typeIs,fun a e => ?_⟩
   cases e
   obtain ⟨o,n,e,c,hd,_⟩ := pl
   exact ⟨o,e,hd⟩
  ·refine ⟨⟨o,I.kIn p o hk,hc⟩,fun a e => ?_⟩
   cases e
   exact ⟨o,I.kIn _ o hk,hd⟩
  ·have z : ∃ o,s.heap.get? p = some o /\ o.ExactDict := by
    rcases hk with ⟨kvs,hk⟩ | ⟨kvs,hk⟩
    ·obtain ⟨_,_,_,_,o,_,_,e,ex,_⟩ := I.hok p _ hk
     exact ⟨o,e,ex⟩
    ·obtain ⟨_,_,_,_,o,_,_,e,ex,_⟩ := I.hok p _ hk
     exact ⟨o,e,ex⟩
   obtain ⟨o,e,ex⟩ := z
   refine ⟨⟨o,e,ex.1⟩,fun a e2 => ?_⟩
   cases e2
   exact ⟨o,e,ex.2.1⟩
  ·obtain ⟨o,_,_,_,e,ex,_⟩ := I.hok p _ hk
   refine ⟨⟨o,e,ex.1⟩,fun a e2 => ?_⟩
   cases e2
   exact ⟨o,e,ex.2.1⟩
 | _ => exact False.elim ty
def tBM (K : PySem.W.Frag) (T : String) (r : V -> List V -> Hp -> VK -> Prop) (to : TE) (t : TA) : TE := fun σ H Q => to σ H fun x H1 => tyV K T x H1 /\ t σ H1 fun xs H2 => r x xs H2 Q
variable {o e : Expr} {es : List Expr} {to : TE} {t : TA} {name : Str} {apos cpos : Pos} {T id : String} {r : V -> List V -> Hp -> VK -> Prop}
theorem pe_bm (pa : PlainAttrs T) (slot : Slot T name id) (hty : typeOf (.builtin id) = pure (.type "method_descriptor")) (hm : MtR X id r) (ho : PE X o to) (ha : PA X (e :: es) t)
  (hbase : attributeBase o name X.env (eval o X.env) = eval o X.env := by rfl)
  (hfew : ((backTo cpos (starEach (e :: es) X.env)).all (fun x => !x.1) && (backToKw cpos (keywordEach [] X.env)).all (fun x => x.1.isSome)
   && decide ((e :: es).length + ([] : List Keyword).length + (if ([] : List Keyword).isEmpty then 0 else 1) < 30)) = true := by rfl)
  (hline : (apos.endLine == cpos.line) = true := by rfl) (hs : starEach (e :: es) X.env = (false,eval e X.env) :: starEach es X.env := by rfl) (hplain : (backTo cpos (starEach es X.env)).any (·.1) = false := by rfl) :
  PE X (.Call (.Attribute o name apos) (e :: es) [] cpos) (tBM X.K T r to t) := by
 intro pins s σ H Q I h
 refine wpAny_Call_method_late hbase hfew hline rfl (thn (ho pins s σ H _ I h) fun v s1 ⟨x,H1,I1,r1,ty,q1⟩ => ?_)
 obtain ⟨h1,h2⟩ := tyV_is I1 r1 ty
 refine ⟨T,id,pa,slot,hty,h1,h2,?_⟩
 have hA := ha cpos pins s1 σ H1 _ I1 q1
 rw [hs] at hA ⊢
 refine Calls.callWith_builtin (by show (false || (backTo cpos (starEach es X.env)).any (·.1)) = false; rw [hplain] <;> rfl) (Calls.evalArgs_plain ?_)
 exact thn hA fun us s2 ⟨vs,H2,I2,r2,q2⟩ => hm pins s2 σ H2 x vs v us Q I2 r1 r2 q2
end
end L2
namespace L2
open PySem PySem.Spec PyProof.Rows
def MtM (X : Cx) (id : String) (r : V -> List V -> Hp -> VK -> Prop) : Prop :=
 ∀ (pins : List (Addr × Obj)) (s : Shared) (σ : St) (H : Hp) (x : V) (xs : List V) (v : Value) (us : List Value) (Q : VK),Inv X pins σ H s -> zaG x v -> zav xs us -> r x xs H Q ->
  wpAny (model X.prog X.w) X.A (call (.builtin id) (v :: us)) (EP X pins σ Q) X.xe s
theorem zav.one : ∀ {x : V} {us : List Value},zav [x] us -> ∃ u,us = [u] /\ zaG x u
 | _,_,.cons r .nil => ⟨_,rfl,r⟩
theorem zav.eraseIdx : ∀ {xs : List V} {us : List Value} (i : Nat),zav xs us -> zav (xs.eraseIdx i) (us.eraseIdx i)
 | _,_,_,.nil => .nil
 | _,_,0,.cons _ t => t
 | _,_,i + 1,.cons r t => .cons r (zav.eraseIdx i t)
theorem len_erase {α : Type} : ∀ (l : List α) (i : Nat),(l.eraseIdx i).length <= l.length
 | [],_ => Nat.le_refl _
 | _ :: _,0 => Nat.le_succ _
 | _ :: r,i + 1 => Nat.succ_le_succ (len_erase r i)
section
variable {X : Cx} {pins : List (Addr × Obj)} {σ : St} {H : Hp} {s : Shared} {l b : Addr} {xs ys zs : List V}
theorem Inv.lset {its its' : List Value} {n : Nat} {f : Array Value -> Array Value} {t' : Nat} (I : Inv X pins σ H s) (hH : H l = some (.lst xs))
  (e : s.heap.get? l = some { cls := .type "list",data := .seq its.toArray n }) (hf : f its.toArray = its'.toArray) (hv : zav ys its') (hz : ys.length <= sizeLine) :
  Inv X pins σ (upd H l (.lst ys)) { s with heap := s.heap.update l (Obj.mapSeq f),toks := t' } := by
 have q := PySem.IsL.update e f
 rw [hf] at q
 refine I.write (x := l) (e := l) (by rw [hH]; exact trivial) (.inl rfl) (fun b' u hb hu => (Heap.get?_update_other s.heap (Obj.mapSeq f) (Ne.symm hb)).trans hu) ⟨_,q⟩ ?_
 exact ⟨hz,its',_,hv,q⟩
theorem Inv.lnew {its : List Value} {t' : Nat} (I : Inv X pins σ H s) (hv : zav ys its) (hz : ys.length <= sizeLine) :
  Inv X pins σ (upd H s.heap.objs.size (.lst ys)) { s with heap := s.heap.push { cls := .type "list",data := .seq its.toArray },toks := t' } :=
 I.laid (fun _ _ q => Heap.get?_push_of_some _ q) (Nat.le_refl _) ⟨hz,its,0,hv,Heap.get?_push_size _ rfl⟩
theorem Inv.fresh (I : Inv X pins σ H s) : H s.heap.objs.size = none := I.hok.fresh (Nat.le_refl _)
theorem Inv.lstM (I : Inv X pins σ H s) (hH : H l = some (.lst xs)) : xs.length <= sizeLine /\ ∃ (its : List Value) (n : Nat),zav xs its /\ xs.length = its.length /\ s.heap.get? l = some { cls := .type "list",data := .seq its.toArray n } := by
 obtain ⟨z,its,n,r,e⟩ := I.hok l _ hH
 exact ⟨z,its,n,r,r.length,e⟩
end
section
variable {X : Cx}
def rAppend : V -> List V -> Hp -> VK -> Prop := fun x vs H Q => ∃ l xs y,x = .ref l /\ vs = [y] /\ H l = some (.lst xs) /\ xs.length < sizeLine /\ Q .non (upd H l (.lst (xs ++ [y])))
theorem mt_append : MtM X "list.append" rAppend := by
 intro pins s σ H x vs v us Q I rx rv h
 obtain ⟨l,xs,y,rfl,rfl,hH,hz,q⟩ := h
 cases rx
 obtain ⟨u,rfl,ru⟩ := rv.one
 obtain ⟨z,its,n,r,hl,e⟩ := I.lstM hH
 refine call_meets F.slot_list_append ⟨_,e,rfl⟩ F.entry_list_append (F.args_list_append_2 _ _) (PySem.list_append l its.toArray n u (by rw [List.size_toArray]; omega)) ⟨e,?_⟩
 refine ⟨.non,_,I.lset (its' := its ++ [u]) hH e (by simp) (r.append (.cons ru .nil)) ?_,rfl,q⟩
 rw [List.length_append,List.length_singleton]
 omega
def rPopAt : V -> List V -> Hp -> VK -> Prop := fun x vs H Q => ∃ l xs i k y,x = .ref l /\ vs = [.int i] /\ H l = some (.lst xs) /\ -(2 ^ 63) <= i /\ i < 2 ^ 63 /\ seqIndex? i xs.length = some k /\ xs[k]? = some y /\ Q y (upd H l (.lst (xs.eraseIdx k)))
theorem mt_popAt : MtM X "list.pop" rPopAt := by
 intro pins s σ H x vs v us Q I rx rv h
 obtain ⟨l,xs,i,k,y,rfl,rfl,hH,h1,h2,hk,hy,q⟩ := h
 cases rx
 obtain ⟨u,rfl,ru⟩ := rv.one
 obtain ⟨t,rfl⟩ := ru
 obtain ⟨z,its,n,r,hl,e⟩ := I.lstM hH
 obtain ⟨w,hw,rw'⟩ := r.get hy
 refine call_meets F.slot_list_pop ⟨_,e,rfl⟩ F.entry_list_pop (F.args_list_pop_2 _ _)
  (MeetsSeq.list_pop_at l its.toArray n i t k w (fitsIndex_both h1 h2) (by rw [List.size_toArray,<- hl]; exact hk) (by rw [<- Array.getElem?_toList]; exact hw) (by rw [List.size_toArray]; omega)) ⟨e,?_⟩
 refine ⟨y,_,I.lset (its' := its.eraseIdx k) hH e ?_ (r.eraseIdx k) ?_,rw',q⟩
 ·show its.toArray.eraseIdxIfInBounds k = (its.eraseIdx k).toArray
  rw [List.eraseIdxIfInBounds_toArray]
 ·have := len_erase xs k
  omega
def rCat : R2 := fun x y H Q => ∃ l b xs zs,x = .ref l /\ y = .ref b /\ H l = some (.lst xs) /\ H b = some (.lst zs) /\ xs.length + zs.length <= sizeLine /\ ∀ p,H p = none -> Q (.ref p) (upd H p (.lst (xs ++ zs)))
theorem op_cat : OpR X (binaryOp .Add) rCat := by
 intro pins s σ H x y v u Q I rx ry h
 obtain ⟨l,b,xs,zs,rfl,rfl,hH,hB,hz,q⟩ := h
 cases rx
 cases ry
 obtain ⟨z,its,n,r,hl,e⟩ := I.lstM hH
 obtain ⟨z2,its2,n2,r2,hl2,e2⟩ := I.lstM hB
 refine PySem.P.add_list e e2 ?_ (by rw [List.size_toArray,List.size_toArray]; omega)
 have ea : its.toArray ++ its2.toArray = (its ++ its2).toArray := by simp
 rw [ea]
 exact ⟨.ref _,_,I.lnew (t' := s.toks) (r.append r2) (by rw [List.length_append]; omega),rfl,q _ I.fresh⟩
end
section
variable {prog : Program} {w : World} {A : Around} {E : Value -> Shared -> Prop} {s : Shared}
end
section
variable {X : Cx}
end
end L2
namespace L2
open PySem PySem.Spec PyProof.Rows
section
variable {κ : Type} [DecidableEq κ]
def valV (kvs : List (κ × V)) (k : κ) : Option V := (kvs.find? fun kv => decide (kv.1 = k)).map (·.2)
def putK (kvs : List (κ × V)) (k : κ) (v : V) : List (κ × V) :=
 if (kvs.any fun kv => decide (kv.1 = k)) = true then kvs.map (fun kv => if kv.1 = k then (kv.1,v) else kv) else kvs ++ [(k,v)]
theorem valV_pos {p : κ × V} {r : List (κ × V)} {k : κ} (e : p.1 = k) : valV (p :: r) k = some p.2 := by simp [valV,List.find?_cons,e]
theorem valV_neg {p : κ × V} {r : List (κ × V)} {k : κ} (e : ¬ p.1 = k) : valV (p :: r) k = valV r k := by simp [valV,List.find?_cons,e]
theorem valV_any (k : κ) : ∀ kvs : List (κ × V),(kvs.any fun kv => decide (kv.1 = k)) = (valV kvs k).isSome
 | [] => rfl
 | p :: r => by
  rw [List.any_cons]
  by_cases e : p.1 = k
  ·simp only [valV_pos e,decide_eq_true e,Bool.true_or,Option.isSome_some]
  ·rw [valV_neg e,decide_eq_false e,Bool.false_or]; exact valV_any k r
theorem length_putK (kvs : List (κ × V)) (k : κ) (v : V) : (putK kvs k v).length <= kvs.length + 1 := by
 unfold putK
 split
 ·rw [List.length_map]; omega
 ·rw [List.length_append,List.length_cons,List.length_nil]; omega
theorem RelO.isSome_eq {o : Option V} {u : Option Value} (r : RelO o u) : o.isSome = u.isSome := by
 cases o with
 | none => cases u with
  | none => rfl
  | some _ => exact (show False from r).elim
 | some _ => cases u with
  | none => exact (show False from r).elim
  | some _ => rfl
theorem RelO.getD {o : Option V} {u : Option Value} {d : V} {d' : Value} (r : RelO o u) (rd : zaG d d') : zaG (o.getD d) (u.getD d') := by
 cases o with
 | none => cases u with
  | none => exact rd
  | some _ => exact (show False from r).elim
 | some _ => cases u with
  | none => exact (show False from r).elim
  | some _ => exact r
theorem KV.val {kvs : List (κ × V)} {vs : List (κ × Value)} (r : KV kvs vs) (k : κ) : RelO (valV kvs k) (valueAt vs k) := by
 unfold KV at r
 induction r with
 | nil => exact True.intro
 | @cons p q ps qs h t ih =>
  obtain ⟨h1,h2⟩ := h
  by_cases e : p.1 = k
  ·have e' : q.1 = k := h1.symm.trans e
   have b : valueAt (q :: qs) k = some q.2 := by simp [valueAt,List.find?_cons,e']
   rw [valV_pos e,b]; exact h2
  ·have e' : ¬ q.1 = k := fun z => e (h1.trans z)
   have b : valueAt (q :: qs) k = valueAt qs k := by simp [valueAt,List.find?_cons,e']
   rw [valV_neg e,b]; exact ih
theorem KV.any {kvs : List (κ × V)} {vs : List (κ × Value)} (r : KV kvs vs) (k : κ) : (kvs.any fun kv => decide (kv.1 = k)) = vs.any fun kv => decide (kv.1 = k) := by
 unfold KV at r
 induction r with
 | nil => rfl
 | cons h t ih => rw [List.any_cons,List.any_cons,ih,h.1]
theorem KV.repl {kvs : List (κ × V)} {vs : List (κ × Value)} (r : KV kvs vs) (k : κ) {y : V} {u : Value} (ry : zaG y u) :
  KV (kvs.map fun kv => if kv.1 = k then (kv.1,y) else kv) (vs.map fun kv => if kv.1 = k then (kv.1,u) else kv) := by
 unfold KV at r ⊢
 induction r with
 | nil => exact .nil
 | @cons p q ps qs h t ih =>
  rw [List.map_cons,List.map_cons]
  refine .cons ?_ ih
  obtain ⟨h1,h2⟩ := h
  by_cases e : p.1 = k
  ·rw [if_pos e,if_pos (h1.symm.trans e)]; exact ⟨h1,ry⟩
  ·rw [if_neg e,if_neg (fun z => e (h1.trans z))]; exact ⟨h1,h2⟩
theorem KV.put {kvs : List (κ × V)} {vs : List (κ × Value)} (r : KV kvs vs) (k : κ) {y : V} {u : Value} (ry : zaG y u) : KV (putK kvs k y) (stored vs k u) := by
 unfold putK stored
 rw [r.any k]
 by_cases e : (vs.any fun kv => decide (kv.1 = k)) = true
 ·rw [if_pos e,if_pos e]; exact r.repl k ry
 ·rw [if_neg e,if_neg e]; exact Paired.snoc r ⟨rfl,ry⟩
theorem KV.length {kvs : List (κ × V)} {vs : List (κ × Value)} (r : KV kvs vs) : kvs.length = vs.length := Paired.length r
end
theorem kV_is {P : Program} {w : World} {k : Key} {u : Value} (r : zaG (kV k) u) : (zau P w).is k u = true := by
 cases k with
 | inl i => obtain ⟨t,e⟩ := (show ∃ t,u = Value.int i t from r); subst e; exact mixKind_int P w i t
 | inr x => obtain ⟨t,e⟩ := (show ∃ t,u = Value.str x t from r); subst e; exact mixKind_str P w x t
theorem items_are {P : Program} {w : World} : ∀ {ks : List Key} {us : List Value},zav (ks.map kV) us -> ItemsAre (zau P w) ks us
 | [],_,r => by rw [List.map_nil] at r; cases r; exact .nil
 | k :: ks,_,r => by
  rw [List.map_cons] at r
  cases r with
  | cons h t => exact .cons (kV_is h) (items_are t)
abbrev KT (H : Hp) : List (List Key × V) -> List (List Key × Addr × Value) -> Prop := Paired fun p q => p.1 = q.1 /\ H q.2.1 = some (.tup (p.1.map kV)) /\ zaG p.2 q.2.2
theorem KT.val {H : Hp} {kvs : List (List Key × V)} {xs : List (List Key × Addr × Value)} (r : KT H kvs xs) (k : List Key) : RelO (valV kvs k) ((atKey xs k).map (·.2)) := by
 induction r with
 | nil => exact True.intro
 | @cons p q ps qs h t ih =>
  obtain ⟨h1,_,h2⟩ := h
  by_cases e : p.1 = k
  ·have e' : q.1 = k := h1.symm.trans e
   have b : atKey (q :: qs) k = some q.2 := by simp [atKey,List.find?_cons,e']
   rw [valV_pos e,b]; exact h2
  ·have e' : ¬ q.1 = k := fun z => e (h1.trans z)
   have b : atKey (q :: qs) k = atKey qs k := by simp [atKey,List.find?_cons,e']
   rw [valV_neg e,b]; exact ih
theorem KT.repl {H : Hp} {kvs : List (List Key × V)} {xs : List (List Key × Addr × Value)} (r : KT H kvs xs) (k : List Key) {y : V} {u : Value} (ry : zaG y u) :
  KT H (kvs.map fun kv => if kv.1 = k then (kv.1,y) else kv) (xs.map (putAt k u)) := by
 induction r with
 | nil => exact .nil
 | @cons p q ps qs h t ih =>
  rw [List.map_cons,List.map_cons]
  refine .cons ?_ ih
  obtain ⟨h1,h2,h3⟩ := h
  unfold putAt
  by_cases e : p.1 = k
  ·rw [if_pos e,if_pos (h1.symm.trans e)]; exact ⟨h1,h2,ry⟩
  ·rw [if_neg e,if_neg (fun z => e (h1.trans z))]; exact ⟨h1,h2,h3⟩
theorem KT.put {H : Hp} {kvs : List (List Key × V)} {xs : List (List Key × Addr × Value)} (r : KT H kvs xs) (k : List Key) {b : Addr} {y : V} {u : Value} (hb : H b = some (.tup (k.map kV))) (ry : zaG y u) :
  KT H (putK kvs k y) (storedH xs k b u) := by
 have e : (kvs.any fun kv => decide (kv.1 = k)) = (atKey xs k).isSome := by
  rw [valV_any,(r.val k).isSome_eq,Option.isSome_map]
 unfold putK storedH
 rw [e]
 by_cases q : (atKey xs k).isSome = true
 ·rw [if_pos q,if_pos q]; exact r.repl k ry
 ·rw [if_neg q,if_neg q]; exact Paired.snoc r ⟨rfl,hb,ry⟩
theorem KT.keeps {H H' : Hp} {kvs : List (List Key × V)} {xs : List (List Key × Addr × Value)} (r : KT H kvs xs) (ht : ∀ b ys,H b = some (.tup ys) -> H' b = some (.tup ys)) : KT H' kvs xs :=
 Paired.mapP r fun _ _ z => ⟨z.1,ht _ _ z.2.1,z.2.2⟩
section
variable {P : Program} {w : World} {H : Hp} {h : Heap} {a : Addr}
theorem rd_of {u : HO} (ok : HOk P w H h) (e : Rd H a u) : za2 P w H h a u := e.ok ok
theorem dk_rd {kvs : List (Key × V)} (ok : HOk P w H h) (e : Rd H a (.dK kvs)) : kvs.length <= sizeLine /\ (a == sysModules) = false /\ ∃ vs,KV kvs vs /\ h.DictOf (zau P w) a vs :=
 show za2 P w H h a (.dK kvs) from rd_of ok e
theorem dk_of {kvs : List (Key × V)} (ok : HOk P w H h) (e : H a = some (.dK kvs)) : kvs.length <= sizeLine /\ (a == sysModules) = false /\ ∃ vs,KV kvs vs /\ h.DictOf (zau P w) a vs := dk_rd ok (.inl e)
theorem key_of {ks : List Key} (ok : HOk P w H h) (e : H a = some (.tup (ks.map kV))) : (tupleKind (zau P w)).is h ks a := by
 obtain ⟨_,its,r,o,h1,h2,n,h3⟩ := (show za2 P w H h a (.tup (ks.map kV)) from ok a _ e)
 exact ⟨o,its.toArray,n,h1,h2,h3,by simpa using items_are r⟩
theorem dt_rd {kvs : List (List Key × V)} (ok : HOk P w H h) (e : Rd H a (.dT kvs)) : kvs.length <= sizeLine /\ (a == sysModules) = false /\
  ∃ xs,KT H kvs xs /\ h.DictOfH (tupleKind (zau P w)) a xs := by
 obtain ⟨z,y,xs,r,o,es,ep,h1,h2,h3,h4,h5⟩ := (show za2 P w H h a (.dT kvs) from rd_of ok e)
 refine ⟨z,y,xs,r,o,es,ep,h1,h2,h3,h4,fun x hx => ?_,h5⟩
 have all : ∀ {l : List (List Key × V)} {m : List (List Key × Addr × Value)},KT H l m -> ∀ x ∈ m,(tupleKind (zau P w)).is h x.1 x.2.1 := by
  intro l m q
  induction q with
  | nil => intro x hx; exact nomatch hx
  | @cons p q ps qs hq t ih =>
   intro x hx
   rcases List.mem_cons.mp hx with e | hx
   ·subst e
    exact key_of ok (by rw [<- hq.1]; exact hq.2.1)
   ·exact ih x hx
 exact all r x hx
theorem dt_of {kvs : List (List Key × V)} (ok : HOk P w H h) (e : H a = some (.dT kvs)) : kvs.length <= sizeLine /\ (a == sysModules) = false /\
  ∃ xs,KT H kvs xs /\ h.DictOfH (tupleKind (zau P w)) a xs := dt_rd ok (.inl e)
end
def DGet (H : Hp) (a : Addr) (y : V) (r : Option V) : Prop :=
 (∃ kvs k,Rd H a (.dK kvs) /\ y = kV k /\ r = valV kvs k) ∨ ∃ kvs k b,Rd H a (.dT kvs) /\ y = .ref b /\ H b = some (.tup (k.map kV)) /\ r = valV kvs k
def DPut (H : Hp) (a : Addr) (y v : V) (H' : Hp) : Prop :=
 (∃ kvs k,H a = some (.dK kvs) /\ y = kV k /\ kvs.length < sizeLine /\ H' = upd H a (.dK (putK kvs k v))) ∨
 ∃ kvs k b,H a = some (.dT kvs) /\ y = .ref b /\ H b = some (.tup (k.map kV)) /\ kvs.length < sizeLine /\ H' = upd H a (.dT (putK kvs k v))
theorem DPut.k {H : Hp} {a : Addr} {kvs : List (Key × V)} {k : Key} {v : V} (e : H a = some (.dK kvs)) (hl : kvs.length < sizeLine) : DPut H a (kV k) v (upd H a (.dK (putK kvs k v))) := .inl ⟨kvs,k,e,rfl,hl,rfl⟩
section
variable {X : Cx} {pins : List (Addr × Obj)} {σ : St} {H : Hp} {s : Shared} {a : Addr} {y v : V} {u r : Value} {o : Option V} {A : Around} {E : Value -> Shared -> Prop}
theorem Inv.big (I : Inv X pins σ H s) : sysModules < s.heap.objs.size := by
 have h : mainGlobals < s.heap.objs.size := (I.mod.glob.keeps I.bk).lt
 exact Nat.lt_trans (by decide) h
theorem d_getItem {Q : Value -> Shared -> Prop} (hu : A.units + 1 < cLine) (I : Inv X pins σ H s) (g : DGet H a y (some v)) (ry : zaG y u) (h : ∀ w' s',Inv X pins σ H s' -> zaG v w' -> Q w' s') :
  wpAny (model X.prog X.w) A (getItem (.ref a) u) Q E s := by
 rcases g with ⟨kvs,k,e,ey,l⟩ | ⟨kvs,k,b,e,ey,eb,l⟩
 ·subst ey
  obtain ⟨z,hd,vs,rel,dd⟩ := dk_rd I.hok e
  obtain ⟨w',hw,rw'⟩ := RelO.some_of (v := v) (o := valueAt vs k) (by rw [l]; exact rel.val k)
  exact wpAny_getItem_of (kV_is ry) dd.mapOf hw (h w' _ (I.tok _) rw')
 ·subst ey
  cases (show u = Value.ref b from ry)
  obtain ⟨z,hd,xs,rel,dd⟩ := dt_rd I.hok e
  obtain ⟨w',hw,rw'⟩ := RelO.some_of (v := v) (o := (atKey xs k).map (·.2)) (by rw [l]; exact rel.val k)
  obtain ⟨p,hp,hp2⟩ := Option.map_eq_some_iff.mp hw
  refine wpAny_getItem_heap (tupleKind_room_in1 hu) (key_of I.hok eb) dd hp ?_
  rw [hp2]
  exact h w' _ (I.tok _) rw'
theorem d_in {Q : Value -> Shared -> Prop} (hu : A.units + 1 < cLine) (I : Inv X pins σ H s) (g : DGet H a y o) (ry : zaG y u) (h : ∀ s',Inv X pins σ H s' -> Q (.bool o.isSome) s') :
  wpAny (model X.prog X.w) A (compareOp .In u (.ref a)) Q E s := by
 rcases g with ⟨kvs,k,e,ey,l⟩ | ⟨kvs,k,b,e,ey,eb,l⟩
 ·subst ey
  obtain ⟨z,hd,vs,rel,dd⟩ := dk_rd I.hok e
  refine wpAny_in_of (kV_is ry) hd dd.mapOf ?_
  rw [<- (rel.val k).isSome_eq,<- l]
  exact h _ (I.tok _)
 ·subst ey
  cases (show u = Value.ref b from ry)
  obtain ⟨z,hd,xs,rel,dd⟩ := dt_rd I.hok e
  refine wpAny_in_heap (tupleKind_room_in1 hu) (key_of I.hok eb) hd dd ?_
  have q := (rel.val k).isSome_eq
  rw [Option.isSome_map] at q
  rw [<- q,<- l]
  exact h _ (I.tok _)
theorem d_write {h' : Heap} {t' : Nat} {ob : HO} (I : Inv X pins σ H s) (mu : Mut (H a)) (hs : Heap.SameBut a s.heap h') (he : ∃ q,h'.get? a = some q) (new : za2 X.prog X.w (upd H a ob) h' a ob) :
  Inv X pins σ (upd H a ob) { s with heap := h',toks := t' } :=
 I.write (x := a) (e := a) mu (.inl rfl) (fun b q hb z => (hs.2 b hb).trans z) he new
theorem dk_new {P : Program} {w : World} {H' : Hp} {h' : Heap} {kvs : List (Key × V)} {vs : List (Key × Value)} (z : kvs.length <= sizeLine) (hd : (a == sysModules) = false) (rel : KV kvs vs) (dd : h'.DictOf (zau P w) a vs) :
  za2 P w H' h' a (.dK kvs) := ⟨z,hd,vs,rel,dd⟩
theorem d_setItem {H' : Hp} {Q : Unit -> Shared -> Prop} (hu : A.units + 1 < cLine) (I : Inv X pins σ H s) (g : DPut H a y v H') (ry : zaG y u) (rv : zaG v r) (h : ∀ s',Inv X pins σ H' s' -> Q () s') :
  wpAny (model X.prog X.w) A (setItem (.ref a) u r) Q E s := by
 rcases g with ⟨kvs,k,e,ey,l,eH⟩ | ⟨kvs,k,b,e,ey,eb,l,eH⟩
 ·subst ey eH
  obtain ⟨z,hd,vs,rel,dd⟩ := dk_of I.hok e
  have hz : vs.length <= sizeLine := by rw [<- rel.length]; exact z
  have hl : (putK kvs k v).length <= sizeLine := by have := length_putK kvs k v; omega
  refine wpAny_setItem_pairs (hsz := hz) (kV_is ry) dd fun h' dd' hs => h _ ?_
  have he : ∃ q,h'.get? a = some q := let ⟨q,_,_,hq,_⟩ := dd'; ⟨q,hq⟩
  exact d_write I (by rw [e]; exact True.intro) hs he (dk_new hl hd (rel.put k rv) dd')
 ·subst ey eH
  cases (show u = Value.ref b from ry)
  obtain ⟨z,hd,xs,rel,dd⟩ := dt_of I.hok e
  have hz : xs.length <= sizeLine := by rw [<- Paired.length rel]; exact z
  have hl : (putK kvs k v).length <= sizeLine := by have := length_putK kvs k v; omega
  refine wpAny_setItem_heap (hsz := hz) (tupleKind_room_in1 hu) (key_of I.hok eb) dd fun h' dd' hs => h _ ?_
  obtain ⟨q,es,ep,hq,h2,h3,h4,_,h5⟩ := dd'
  refine d_write I (by rw [e]; exact True.intro) hs ⟨q,hq⟩ ⟨hl,hd,_,(rel.put k eb rv).keeps fun c ys ec => ?_,q,es,ep,hq,h2,h3,h4,h5⟩
  rw [zah (ne_of ec e (fun z => nomatch z))]
  exact ec
end
section
variable {X : Cx} {pins : List (Addr × Obj)} {σ : St} {H : Hp} {s : Shared} {a : Addr} {kvs : List (Key × V)} {k : Key} {u : Value} {A : Around} {E : Value -> Shared -> Prop}
theorem d_len {Q : Value -> Shared -> Prop} (I : Inv X pins σ H s) (e : Rd H a (.dK kvs)) (h : ∀ t s',Inv X pins σ H s' -> Q (.int kvs.length t) s') : wpAny (model X.prog X.w) A (call (.builtin "len") [.ref a]) Q E s := by
 obtain ⟨z,hd,vs,rel,dd⟩ := dk_rd I.hok e
 refine call_len_dict hd dd (by rw [<- rel.length]; rw [sizeLine_eq] at z; omega) ?_
 rw [<- rel.length]
 exact h _ _ (I.tok _)
end
theorem dict_typeIs {X : Cx} {pins : List (Addr × Obj)} {σ : St} {H : Hp} {s : Shared} {a : Addr} {y : V} {o : Option V} (I : Inv X pins σ H s) (g : DGet H a y o) : s.TypeIs (.ref a) "dict" := by
 rcases g with ⟨kvs,k,e,_,_⟩ | ⟨kvs,k,b,e,_,_,_⟩
 ·obtain ⟨_,_,vs,_,dd⟩ := dk_rd I.hok e
  exact dd.typeIs
 ·obtain ⟨_,_,xs,_,dd⟩ := dt_rd I.hok e
  exact dd.typeIs
theorem dict_noDict {X : Cx} {pins : List (Addr × Obj)} {σ : St} {H : Hp} {s : Shared} {a : Addr} {y : V} {o : Option V} (I : Inv X pins σ H s) (g : DGet H a y o) :
  ∀ b,Value.ref a = .ref b -> ∃ ob,s.heap.get? b = some ob /\ ob.dict = none := fun b q => by
 cases q
 rcases g with ⟨kvs,k,e,_,_⟩ | ⟨kvs,k,b,e,_,_,_⟩
 ·obtain ⟨_,_,vs,_,ob,_,_,h1,h2,_⟩ := dk_rd I.hok e
  exact ⟨ob,h1,h2.2.1⟩
 ·obtain ⟨_,_,xs,_,ob,_,_,h1,h2,_⟩ := dt_rd I.hok e
  exact ⟨ob,h1,h2.2.1⟩
section
variable {X : Cx} {o i e value : Expr} {pos pos' tpos : Pos} {td ty tv : TE}
end
theorem dk_empty {P : Program} {w : World} {H : Hp} (h : Heap) (hb : sysModules < h.objs.size) : za2 P w H (h.push { cls := .type "dict",data := .dict #[] }) h.objs.size (.dK []) :=
 ⟨Nat.zero_le _,beq_eq_false_iff_ne.mpr (Ne.symm (Nat.ne_of_lt hb)),[],.nil,Heap.DictOf.new h⟩
def tDNewK : TE := fun _ H Q => ∀ p,H p = none -> Q (.ref p) (upd H p (.dK []))
section
variable {X : Cx} {pos : Pos}
theorem pe_dnewK : PE X (.Dict [] [] pos) tDNewK := fun pins s σ H Q I h =>
 wpAny_Dict_empty ⟨.ref s.heap.objs.size,_,I.laid (a := s.heap.objs.size) (o := .dK []) (t' := s.toks) (fun _ _ q => Heap.get?_push_of_some _ q) (Nat.le_refl _) (dk_empty s.heap I.big),rfl,h _ (I.hok.fresh (Nat.le_refl _))⟩
end
structure M1 (X : Cx) (o : Expr) (m : Str) (apos : Pos) (e : Expr) (cpos : Pos) : Prop where
 base : attributeBase o m X.env (eval o X.env) = eval o X.env
 few : ((backTo cpos (starEach [e] X.env)).all (fun x => !x.1) && (backToKw cpos (keywordEach [] X.env)).all (fun x => x.1.isSome)
  && decide (([e] : List Expr).length + ([] : List Keyword).length + (if ([] : List Keyword).isEmpty then 0 else 1) < 30)) = true
 line : (apos.endLine == cpos.line) = true
 trees : backTo cpos (starEach [e] X.env) = [(false,eval e X.env)]
structure M2 (X : Cx) (o : Expr) (m : Str) (apos : Pos) (e f : Expr) (cpos : Pos) : Prop where
 base : attributeBase o m X.env (eval o X.env) = eval o X.env
 few : ((backTo cpos (starEach [e,f] X.env)).all (fun x => !x.1) && (backToKw cpos (keywordEach [] X.env)).all (fun x => x.1.isSome)
  && decide (([e,f] : List Expr).length + ([] : List Keyword).length + (if ([] : List Keyword).isEmpty then 0 else 1) < 30)) = true
 line : (apos.endLine == cpos.line) = true
 trees : backTo cpos (starEach [e,f] X.env) = [(false,eval e X.env),(false,eval f X.env)]
def IsD (H : Hp) (a : Addr) : Prop := (∃ kvs,Rd H a (.dK kvs)) ∨ ∃ kvs,Rd H a (.dT kvs)
theorem isD_at {X : Cx} {pins : List (Addr × Obj)} {σ : St} {H : Hp} {s : Shared} {a : Addr} (I : Inv X pins σ H s) (d : IsD H a) :
  s.TypeIs (.ref a) "dict" /\ (∀ b,Value.ref a = .ref b -> ∃ ob,s.heap.get? b = some ob /\ ob.dict = none) /\ (a == sysModules) = false := by
 rcases d with ⟨kvs,e⟩ | ⟨kvs,e⟩
 ·obtain ⟨_,hd,vs,_,dd⟩ := dk_rd I.hok e
  refine ⟨dd.typeIs,fun b q => ?_,hd⟩
  cases q
  obtain ⟨ob,_,_,h1,h2,_⟩ := dd
  exact ⟨ob,h1,h2.2.1⟩
 ·obtain ⟨_,hd,xs,_,dd⟩ := dt_rd I.hok e
  refine ⟨dd.typeIs,fun b q => ?_,hd⟩
  cases q
  obtain ⟨ob,_,_,h1,h2,_⟩ := dd
  exact ⟨ob,h1,h2.2.1⟩
section
variable {X : Cx} {pins : List (Addr × Obj)} {σ : St} {H : Hp} {s : Shared} {a : Addr} {y d : V} {u r : Value} {o : Option V} {A : Around} {E : Value -> Shared -> Prop}
theorem d_get2 {Q : Value -> Shared -> Prop} (hu : A.units + 1 < cLine) (I : Inv X pins σ H s) (g : DGet H a y o) (ry : zaG y u) (rd : zaG d r) (h : ∀ w' s',Inv X pins σ H s' -> zaG (o.getD d) w' -> Q w' s') :
  wpAny (model X.prog X.w) A (call (.builtin "dict.get") [.ref a,u,r]) Q E s := by
 rcases g with ⟨kvs,k,e,ey,l⟩ | ⟨kvs,k,b,e,ey,eb,l⟩
 ·subst ey
  obtain ⟨z,hd,vs,rel,dd⟩ := dk_rd I.hok e
  refine call_meetsIn PySem.F.slot_dict_get dd.typeIs PySem.F.entry_dict_get (PySem.F.args_dict_get_3 _ _ _) (meets_dict_get_default (zau X.prog X.w) a (kV_is ry) hd r) ⟨_,dd.mapOf,h _ _ (I.tok _) ?_⟩
  rw [l]
  exact (rel.val k).getD rd
 ·subst ey
  cases (show u = Value.ref b from ry)
  obtain ⟨z,hd,xs,rel,dd⟩ := dt_rd I.hok e
  refine call_meetsIn PySem.F.slot_dict_get dd.typeIs PySem.F.entry_dict_get (PySem.F.args_dict_get_3 _ _ _) (meetsH_dict_get_default (tupleKind (zau X.prog X.w)) a b hd r) ⟨tupleKind_room_in1 hu,k,xs,key_of I.hok eb,dd,h _ _ (I.tok _) ?_⟩
  rw [l]
  exact (rel.val k).getD rd
end
section
variable {X : Cx} {o e f : Expr} {apos cpos : Pos} {td ty tx : TE}
end
section
variable {X : Cx} {pins : List (Addr × Obj)} {σ : St} {H : Hp} {s : Shared} {a : Addr} {kvs : List (Key × V)} {A : Around} {E : Value -> Shared -> Prop}
end
section
variable {X : Cx} {pins : List (Addr × Obj)} {σ : St} {H : Hp} {s : Shared} {a : Addr} {y : V} {u : Value} {A : Around} {E : Value -> Shared -> Prop}
end
end L2
namespace Att
open PySem PySem.W PySem.Calls PyProof.Rows
theorem ints_of_wellAll {P : Params} {h : Heap} : ∀ (ns : List Int) (vs : List Value),WellAll P h vs (ns.map WData.int) -> IntsAre vs ns := by
 intro ns
 induction ns with
 | nil =>
  intro vs w
  rw [List.map_nil] at w
  cases w
  exact .nil
 | cons n ns ih =>
  intro vs w
  rw [List.map_cons] at w
  cases w with
  | cons a b =>
   cases a
   exact .cons _ _ (ih _ b)
theorem script_of {l : OpenLaw} {n : Nat} (hn : l.most = some n) {P : Params} {h : Heap} {args : List WData} {vals : List Value}
  (hpre : l.row.toRowW.claim.pre args = true) (hwl : WellAll P h vals args) :
  ∃ a vs ns,vals = [Value.ref a] /\ args = [WData.list (ns.map WData.int)] /\ h.get? a = some { cls := .type "list",data := .seq vs.toArray } /\ IntsAre vs ns /\ ns.length <= n := by
 have hsh : WShape.hasAll [] args [.list .int] = true := (pre_splitW hpre).1
 have hc : l.pre.holds [] { args := args } = true := (pre_splitW hpre).2
 obtain ⟨d,r,rfl,h1,h2⟩ := hasAllW_cons hsh
 obtain rfl := hasAllW_nil h2
 obtain ⟨xs,rfl,h3⟩ := hasW_list h1
 obtain ⟨ns,rfl⟩ := items_int h3
 have hlen : ns.length <= n := by
  unfold OpenLaw.pre at hc
  have h4 : (WTm.not (.lt (.lit (.int (n : Int))) (.len (.arg 0)))).holds [] { args := [.list (ns.map .int)] } = true := by
   have h4 := (holds_andW hc).1
   rw [hn] at h4
   exact h4
  have h5 := condW_of h4 (w_not (w_lt w_lit (w_len_list (w_arg rfl))))
  rw [List.length_map] at h5
  refine Nat.le_of_not_lt fun q => ?_
  have q' : (n : Int) < ((ns.length : Nat) : Int) := by omega
  first
   | (rw [decide_eq_true q'] at h5; exact absurd h5 (by decide))
   | (simp at h5; omega)
 cases hwl with
 | cons w1 w2 =>
  cases w2
  cases w1 with
  | list ho hall => exact ⟨_,_,ns,rfl,rfl,ho,ints_of_wellAll ns _ hall,hlen⟩
theorem post_true (l : OpenLaw) (args : List WData) : l.row.toRowW.claim.post args (.bool true) args = true :=
 postW_of (r := l.row.toRowW) (X := (true == true))
  (show WShape.has [] (.bool true) .bool = true by first | rfl | decide | simp [WShape.has,WShape.arms,WShape.armsAll])
  (show (WTm.eq .res (.lit (.bool true))).value [] { args := args,res := some (.bool true),after := args } = some (.bool (true == true)) from w_eq_bool (w_res rfl) w_lit) rfl
theorem attach_call {l : OpenLaw} {n : Nat} {q : Program} {loose : List Str} {XP : (Str -> Option Value) -> Heap -> Prop} {YP : World -> Heap -> Prop} {d : DefRec}
  (hn : l.most = some n) (hdf : d.params.defaults = [])
  (call : ∀ (w : World) (s₀ s₁ : Shared) (mg mb : Str -> Option Value) (fa : Addr) (o : Obj) (pm cd doc : Value) (a : Addr) (vs : List Value) (ns : List Int),
   Ground q loose [] XP w s₀ mg mb s₁.heap -> YP w s₁.heap ->
   s₁.heap.get? fa = some o -> o.data = .func (docDef d.name d.params d.body d.scope pm cd doc) -> s₁.heap.CodeRec cd d.name -> mg d.name = some (.ref fa) ->
   s₁.heap.get? a = some { cls := .type "list",data := .seq vs.toArray } -> IntsAre vs ns -> ns.length <= n -> s₁.gens = #[] ->
   codeAny (model l.prog w) callerA (.call (.ref fa) ⟨[.ref a],[]⟩) (fun r s' => r = .ok (.ret (.bool true)) /\ OldK s₁.heap s'.heap /\ s'.os = s₁.os /\ AllBare s'.gens) s₁) :
  WalkO q loose XP YP l.row.toRowW d [] (fun f vs => PySem.call f vs) := by
 intro w s₀ s₁ mg mb G Y fa o pm cd doc dV kV ho hd hcd hD hmg hg args vals as hpre hlay hrd hwl hlo
 obtain rfl : dV = .none := Dflts.none hD hdf
 obtain rfl : kV = .none := Dflts.noKw hD
 obtain ⟨a,vs,ns,rfl,rfl,hobj,hints,hlen⟩ := script_of hn hpre hwl
 refine enter_call (codeAny_mono (call w s₀ s₁ mg mb fa o pm cd doc a vs ns G Y ho (fd_plain hd) hcd hmg hobj hints hlen hg) fun r s' hq => ?_)
 obtain ⟨rfl,h2,h3,h4⟩ := hq
 exact ⟨.inl ⟨.bool true,.bool true,[],rfl,fun _ => rfl,.bool true,post_true l _,fun _ => ⟨List.Pairwise.nil,fun _ hm => (nomatch hm)⟩⟩,h2,h3,h4⟩
section
variable {prog : Program} {w : World} {A : Around} {E : Value -> Shared -> Prop} {s : Shared} {K : Frag}
end
end Att
namespace L2
open PySem PySem.Spec PyProof.Rows
theorem vals_ints : ∀ {vs : List Value} {ns : List Int},IntsAre vs ns -> zav (ns.map V.int) vs
 | _,_,.nil => .nil
 | _,_,.cons n t h => .cons ⟨t,rfl⟩ (vals_ints h)
def Only (H : Hp) : Prop := ∀ b,H b = none ∨ ∃ o xs,H b = some (.frz o (.lst xs))
theorem law_call {P : Program} {w : World} {K : PySem.W.Frag} {mg mb : Str -> Option Value} {CX : CXT} {k : Nat} {fa a : Addr} {fd : FuncData} {x : Str} {sp : Sp} {s₁ : Shared} {vs : List Value} {ns : List Int}
  (KX : K.In s₁.heap) (hns : s₁.heap.Ns mainGlobals mg) (hb : s₁.heap.Ns builtinsNs mb) (hbb : ∀ x : Str,x ≠ "__name__" -> mb x = bootBuiltins x) (hlim : s₁.heap.NoLimit) (hg : s₁.gens = #[])
  (ha : s₁.heap.get? a = some { cls := .type "list",data := .seq vs.toArray }) (hi : IntsAre vs ns) (hl : ns.length <= sizeLine) (hr : Room k callerA)
  (F : ∀ base : Heap,K.In base -> base.Ns mainGlobals mg -> FnOk P w K mg base CX k fa fd [x] sp) (hbind : ∀ (s : Shared) (u : Value),BindsTo s fd ⟨[u],[]⟩ [(x,u)])
  (hsp : ∀ H : Hp,Only H -> SqL K H a (ns.map V.int) -> sp [.ref a] H (fun v _ => v = .bl true) fun _ _ _ => False)
  (hCX : ∀ H e s',CX [] H s₁ (fun _ _ _ => False) e s' -> False) :
  codeAny (model P w) callerA (.call (.ref fa) ⟨[.ref a],[]⟩) (fun r s' => r = .ok (.ret (.bool true)) /\ OldK s₁.heap s'.heap /\ s'.os = s₁.os /\ AllBare s'.gens) s₁ := by
 have rv := vals_ints hi
 have lenV := hi.length
 have core : ∀ H : Hp,Only H -> SqL K H a (ns.map V.int) -> HOk P w H s₁.heap -> (∀ b,H b ≠ none -> b = a) -> (H a ≠ none -> K.lookup a = none) ->
   codeAny (model P w) callerA (.call (.ref fa) ⟨[.ref a],[]⟩) (fun r s' => r = .ok (.ret (.bool true)) /\ OldK s₁.heap s'.heap /\ s'.os = s₁.os /\ AllBare s'.gens) s₁ := by
  intro H hO hS hok hA hK
  have base_of : ∀ {b : Addr} {o : Obj},s₁.heap.get? b = some o -> H b = none -> (hidT s₁.heap H).get? b = some o := fun e n => hidT_get e n
  have noA : ∀ {b : Addr} {o : Obj} {es : Array DictEntry} {ep : Nat},s₁.heap.get? b = some o -> o.data = .dict es ep -> H b = none := fun {b o es ep} e d => by
   cases q : H b with
   | none => rfl
   | some u =>
    have e' : b = a := hA b (by rw [q]; simp)
    subst e'
    rw [ha] at e; cases e
    have d' : Data.seq vs.toArray _ = Data.dict es ep := d
    cases d'
  have nsK : ∀ {b : Addr} {m : Str -> Option Value},s₁.heap.Ns b m -> (hidT s₁.heap H).Ns b m := fun {b m} ⟨o,es,ep,e,d,r⟩ => ⟨o,es,ep,base_of e (noA e d),d,r⟩
  have hKb : K.In (hidT s₁.heap H) := fun b o e => base_of (KX b o e) (by
   cases q : H b with
   | none => rfl
   | some u =>
    have e' : b = a := hA b (by rw [q]; simp)
    subst e'
    rw [hK (by rw [q]; simp)] at e; cases e)
  have hM : Mod K mg (hidT s₁.heap H) := ⟨hKb,nsK hns,⟨mb,nsK hb,hbb⟩,let ⟨mc,h1,h2⟩ := hlim; ⟨mc,nsK h1,h2⟩⟩
  have e0 : Env0 P w K mg (hidT s₁.heap H) callerA [] s₁ H := ⟨rfl,hM,fun b o e => of_hidT e,Nat.le_of_eq (hidT_size _ _),trivial,fun b hb => absurd (show b ∈ ([] : List Addr) from hb) (by simp),hok,.of_eq hg⟩
  refine codeAny_mono ((F _ hKb (nsK hns)).run callerA [] s₁ H ⟨[.ref a],[]⟩ [.ref a] [.ref a] _ _ hr e0 (hbind s₁ (.ref a)) (.cons rfl .nil) (hsp H hO hS)) fun r s' h => ?_
  cases r with
  | error e => exact (hCX H e s' h).elim
  | ok fl =>
   cases fl with
   | next => exact False.elim h
   | brk => exact False.elim h
   | cont => exact False.elim h
   | ret u =>
    obtain ⟨v,H',os,bare,un,hok',r',q⟩ := h
    have q' : v = .bl true := q
    subst q'
    obtain rfl : u = Value.bool true := r'
    refine ⟨rfl,OldK.of_keep fun b o e => ?_,os,bare⟩
    cases q : H b with
    | none => exact un.keep b o e q (by intro z; exact absurd (show b ∈ ([] : List Addr) from z) (by simp)) (by simp)
    | some u =>
     rcases hO b with z | ⟨ob,xs,z⟩
     ·rw [q] at z; cases z
     ·have z2 := un.frzs b ob _ z
      obtain ⟨e1,_⟩ := hok b _ z
      obtain ⟨e2,_⟩ := hok' b _ z2
      rw [e] at e1; cases e1
      exact e2
 cases hk : K.lookup a with
 | some o =>
  have e := KX a o hk
  rw [ha] at e
  cases e
  refine core (fun _ => none) (fun _ => .inl rfl) (.inr ⟨_,vs.toArray,_,hk,rfl,rfl,rfl,by rw [List.size_toArray,lenV]; exact hl,by simpa using rv⟩) (fun b u z => by have z' : (none : Option HO) = some u := z; cases z') (fun b z => absurd rfl z) fun z => absurd rfl z
 | none =>
  refine core (fun b => if b = a then some (.frz { cls := .type "list",data := .seq vs.toArray } (.lst (ns.map V.int))) else none) (fun b => ?_) (.inl (.inr ⟨{ cls := .type "list",data := .seq vs.toArray },if_pos rfl⟩)) (fun b u z => ?_) (fun b z => ?_) fun _ => hk
  ·by_cases hb : b = a
   ·exact .inr ⟨_,_,if_pos hb⟩
   ·exact .inl (if_neg hb)
  ·by_cases hb : b = a
   ·have z' := (if_pos hb).symm.trans z
    cases z'
    subst hb
    exact ⟨ha,by rw [List.length_map]; exact hl,vs,_,rv,ha⟩
   ·have z' := (if_neg hb).symm.trans z
    cases z'
  ·by_cases hb : b = a
   ·exact hb
   ·exact absurd (if_neg hb) z
end L2
namespace L2
open PySem PySem.Spec PyProof.Rows
theorem walk_of {l : PySem.W.OpenLaw} {n k : Nat} {q : Program} {loose : List Str} {XP : (Str -> Option Value) -> Heap -> Prop} {YP : World -> Heap -> Prop} {d : DefRec} {K : Params -> PySem.W.Frag} {CX : World -> CXT} {sp : World -> Sp} {x : Str}
  (hn : l.most = some n) (hn2 : n <= sizeLine) (hdf : d.params.defaults = []) (hr : Room k callerA)
  (hY : ∀ (w : World) (h : Heap),YP w h -> (K w.params).In h)
  (F : ∀ (w : World) (mg : Str -> Option Value) (fa : Addr) (h : Heap),(K w.params).In h -> h.Ns mainGlobals mg -> mg d.name = some (.ref fa) ->
   ∃ fd : FuncData,(∀ (s : Shared) (u : Value),BindsTo s fd ⟨[u],[]⟩ [(x,u)]) /\
    ∀ base : Heap,(K w.params).In base -> base.Ns mainGlobals mg -> FnOk l.prog w (K w.params) mg base (CX w) k fa fd [x] (sp w))
  (hsp : ∀ (w : World) (H : Hp) (a : Addr) (ns : List Int),ns.length <= n -> Only H -> SqL (K w.params) H a (ns.map V.int) -> sp w [.ref a] H (fun v _ => v = .bl true) fun _ _ _ => False)
  (hCX : ∀ (w : World) (H : Hp) (s : Shared) (e : Value) (s' : Shared),CX w [] H s (fun _ _ _ => False) e s' -> False) :
  PySem.W.WalkO q loose XP YP l.row.toRowW d [] (fun f vs => PySem.call f vs) := by
 refine Att.attach_call hn hdf fun w s₀ s₁ mg mb fa o pm cd doc a vs ns G Y ho hd hcd hmg hobj hints hlen hg => ?_
 have KX := hY w _ Y
 obtain ⟨fd,hb,hF⟩ := F w mg fa _ KX G.T.g hmg
 exact law_call KX G.T.g G.T.b G.T.builtins G.T.nolimit hg hobj hints (Nat.le_trans hlen hn2) hr hF hb (fun H hO hS => hsp w H a ns hlen hO hS) fun H e s' => hCX w H s₁ e s'
end L2
namespace L2
open PySem PySem.Spec PyProof.Rows
def zas (s : Stmt) (j : Nat) : Stmt := match s with
 | .ClassDef _ _ _ body _ _ _ _ _ _ _ => body.getD j (.Pass ⟨0,0,0,0⟩)
 | _ => .Pass ⟨0,0,0,0⟩
def zaf (s : Stmt) : Arguments := match s with
 | .FunctionDef _ a _ _ _ _ _ _ _ _ => a
 | _ => { posonlyargs := [],args := [],vararg := none,kwonlyargs := [],kw_defaults := [],kwarg := none,defaults := [] }
def zae (s : Stmt) : List Stmt := match s with
 | .FunctionDef _ _ b _ _ _ _ _ _ _ => b
 | _ => []
def zab (s : Stmt) : Scope := match s with
 | .FunctionDef _ _ _ _ _ _ sc _ _ _ => sc
 | _ => { kind := .function,names := [],isGenerator := false,isCoroutine := false }
abbrev CX0 : CXT := fun _ _ _ _ _ _ => False
abbrev E0 : XK := fun _ _ _ => False
theorem pass0 {X : Cx} : Passes CX0 X E0 := fun _ _ _ _ _ _ _ h => h.elim
structure Fun (K : PySem.W.Frag) (x qual : Str) (st : Stmt) (f : Addr) (fd : FuncData) : Prop where
 ex : ∃ (oc : Value) (od : Option Addr) (kV doc pm : Value) (an : Option Addr) (cdv ct : Value) (osl : Array (Option Value)),
  fd = PySem.W.fnOf x qual (zaf st) (zae st) (zab st) .none kV doc pm an cdv ct /\ K.lookup f = some ⟨oc,od,.func fd,osl⟩ /\ PySem.W.codeIn K cdv qual = true
 kp : PySem.W.keepIn K (.ref f) = true
section
variable {P : Program} {w : World} {K : PySem.W.Frag} {mg : Str -> Option Value} {base : Heap}
theorem Fun.ok {x qual : Str} {st : Stmt} {f : Addr} {fd : FuncData} {N ps : List Str} {k : Nat} {sp : Sp} (F : Fun K x qual st f fd) (S : FnScope N ps (zab st)) (len : ∀ vs H Q E,sp vs H Q E -> vs.length = ps.length)
  (hbody : ∀ (cdv : Value) (A : Around) (outer : List Env) (s : Shared) (H : Hp) (vs : List V) (Q : VK) (E : XK),Room k (A.deeper (envOfC qual (zab st) s.heap.objs.size f cdv)) -> sp vs H Q E ->
   ∃ t,PSs (cxOf CX0 P w K mg base N qual (zab st) f cdv A outer s H E).nox (zae st) t /\ t { nx := fun _ H' => Q .non H',rt := Q } (start N vs) H) : FnOk P w K mg base CX0 (k + 1) f fd ps sp := by
 obtain ⟨oc,od,kV,doc,pm,an,cdv,ct,osl,rfl,lk,hcd⟩ := F.ex
 refine fn_of lk hcd S len fun A outer s H vs Q E hr hsp => ?_
 obtain ⟨t,h,q⟩ := hbody cdv A outer s H vs Q E hr hsp
 exact ⟨t,h.nox,q⟩
theorem Fun.binds {x qual : Str} {st : Stmt} {f : Addr} {fd : FuncData} {ps : List Str} (F : Fun K x qual st f fd)
  (h : ∀ (kV doc pm : Value) (an : Option Addr) (cdv ct : Value) (us : List Value),us.length = ps.length -> bindArgs (PySem.W.fnOf x qual (zaf st) (zae st) (zab st) .none kV doc pm an cdv ct) ⟨us,[]⟩ = pure (ps.zip us)) : Binds K fd ps [] := by
 obtain ⟨oc,od,kV,doc,pm,an,cdv,ct,osl,rfl,lk,hcd⟩ := F.ex
 exact .all (h kV doc pm an cdv ct)
theorem zal {x qual : Str} {st : Stmt} {f : Addr} {oc : Value} {od an : Option Addr} {osl : Array (Option Value)} {kV doc pm cdv ct : Value} (l : K.lookup f = some ⟨oc,od,.func (PySem.W.fnOf x qual (zaf st) (zae st) (zab st) .none kV doc pm an cdv ct),osl⟩)
  (c : PySem.W.codeIn K cdv qual = true) (k : PySem.W.keepIn K (.ref f) = true) : Fun K x qual st f (PySem.W.fnOf x qual (zaf st) (zae st) (zab st) .none kV doc pm an cdv ct) := ⟨⟨oc,od,kV,doc,pm,an,cdv,ct,osl,rfl,l,c⟩,k⟩
end
theorem hu_of {A : Around} {k : Nat} (hr : Room k A) : A.units + 1 < cLine := Nat.lt_of_le_of_lt (Nat.add_le_add_left (by decide : 1 <= 64) _) hr.units
theorem small1000 {n : Nat} (h : n <= 1000) : n < sizeLine := Nat.lt_of_le_of_lt h (by decide)
section
variable {X : Cx}
theorem call_lenD : zbG X (.builtin "len") (fun xs H Q => ∃ a kvs,xs = [V.ref a] /\ H a = some (.dK kvs) /\ Q (.int kvs.length) H) := by
 intro pins s σ H xs us Q I r h
 obtain ⟨a,kvs,rfl,ha,q⟩ := h
 obtain ⟨u,rfl,ru⟩ := vals1 r
 cases ru
 exact d_len I (.inl ha) fun t s' I' => ⟨.int kvs.length,H,I',⟨t,rfl⟩,q⟩
end
section
variable {κ : Type} [DecidableEq κ]
end
end L2
set_option Elab.async false
set_option linter.all false
set_option maxRecDepth 100000
set_option maxHeartbeats 4000000
namespace L2
open PySem PySem.Spec PyProof.Rows
inductive A0 where
 | non | int (i : Int) | str (x : Str)
 deriving DecidableEq
inductive A1 where
 | at (a : A0) | tup (l : List A0)
 deriving DecidableEq
abbrev LK := List A1
def A0.val : A0 -> Value -> Prop
 | .non,v => v = .none
 | .int i,v => ∃ t,v = .int i t
 | .str x,v => ∃ t,v = .str x t
def zbl (h : Heap) (a : Addr) (items : Array Value) : Prop := ∃ o n,h.get? a = some o /\ o.cls = .type "tuple" /\ o.data = .seq items n
def A1.val (h : Heap) : A1 -> Value -> Prop
 | .at a,v => a.val v
 | .tup l,v => ∃ b items,v = .ref b /\ zbl h b items /\ Paired A0.val l items.toList
def isLK (h : Heap) (k : LK) (a : Addr) : Prop := ∃ items,zbl h a items /\ Paired (A1.val h) k items.toList
theorem A0.inj {x y : A0} {v : Value} (h : x.val v) (h' : y.val v) : x = y := by
 cases x <;> cases y <;> simp only [A0.val] at h h'
 all_goals first
  | rfl
  | (subst h; obtain ⟨t,e⟩ := h'; cases e; done)
  | (subst h'; obtain ⟨t,e⟩ := h; cases e; done)
  | (obtain ⟨t,e⟩ := h; obtain ⟨t',e'⟩ := h'; subst e; cases e'; first | rfl | done)
theorem Paired.injL {α β : Type} {F : α -> β -> Prop} (i : ∀ x y v,F x v -> F y v -> x = y) : ∀ {l l' : List α} {r : List β},Paired F l r -> Paired F l' r -> l = l'
 | _,_,_,.nil,.nil => rfl
 | _,_,_,.cons a b,.cons c d => by rw [i _ _ _ a c,Paired.injL i b d]
theorem zbl.inj {h : Heap} {a : Addr} {i j : Array Value} (x : zbl h a i) (y : zbl h a j) : i = j := by
 obtain ⟨o,n,e,_,d⟩ := x
 obtain ⟨o',n',e',_,d'⟩ := y
 rw [e] at e'; cases e'
 rw [d] at d'; injection d'
theorem A1.inj {h : Heap} {x y : A1} {v : Value} (p : x.val h v) (q : y.val h v) : x = y := by
 cases x with
 | «at» a =>
  cases y with
  | «at» b => exact congrArg A1.at (A0.inj p q)
  | tup l =>
   obtain ⟨b,items,rfl,_⟩ := q
   cases a <;> simp only [A1.val,A0.val] at p
   all_goals first | (obtain ⟨t,e⟩ := p; cases e; done) | (cases p; done)
 | tup l =>
  obtain ⟨b,items,rfl,t,r⟩ := p
  cases y with
  | «at» a =>
   cases a <;> simp only [A1.val,A0.val] at q
   all_goals first | (obtain ⟨t,e⟩ := q; cases e; done) | (cases q; done)
  | tup l' =>
   obtain ⟨b',items',e,t',r'⟩ := q
   cases e
   have := t.inj t'
   subst this
   exact congrArg A1.tup (Paired.injL (F := A0.val) (fun _ _ _ => A0.inj) r r')
theorem isLK.inj {h : Heap} {a : Addr} {x y : LK} (p : isLK h x a) (q : isLK h y a) : x = y := by
 obtain ⟨i,t,r⟩ := p
 obtain ⟨j,t',r'⟩ := q
 have := t.inj t'
 subst this
 exact Paired.injL (F := A1.val h) (fun _ _ _ => A1.inj) r r'
theorem zbl.keeps {h h' : Heap} {a d : Addr} {items : Array Value} {o : Obj} {es ep} (x : zbl h a items) (ho : h.get? d = some o) (hd : o.data = .dict es ep) (hs : Heap.SameBut d h h') : zbl h' a items := by
 obtain ⟨o',n,e,c,dd⟩ := x
 refine ⟨o',n,(hs.2 a ?_).trans e,c,dd⟩
 rintro rfl
 rw [e] at ho; cases ho
 rw [dd] at hd; cases hd
theorem isLK.keeps {h h' : Heap} {k : LK} {a d : Addr} {o : Obj} {es ep} (x : isLK h k a) (ho : h.get? d = some o) (hd : o.data = .dict es ep) (hs : Heap.SameBut d h h') : isLK h' k a := by
 obtain ⟨i,t,r⟩ := x
 refine ⟨i,t.keeps ho hd hs,Paired.mapP r fun p v q => ?_⟩
 cases p with
 | «at» a => exact q
 | tup l =>
  obtain ⟨b,items,rfl,t',r'⟩ := q
  exact ⟨b,items,rfl,t'.keeps ho hd hs,r'⟩
def hash0 (w : World) : A0 -> Int
 | .non => 0xFCA86420
 | .int i => hashInt i
 | .str x => hashStr w x
def tupH (l : List Int) : Int := reduceHash (Builtin.Tuple.tupleHashOf l)
def hash1 (w : World) : A1 -> Int
 | .at a => hash0 w a
 | .tup l => tupH (l.map (hash0 w))
def draw1 : A1 -> Nat
 | .at _ => 1
 | .tup l => l.length + 1
section
variable {prog : Program} {w : World} {A : Around} {E : Value -> Shared -> Prop} {s : Shared}
theorem pyHash_none {Q : Int -> Shared -> Prop} (h : Q 0xFCA86420 { s with toks := s.toks + 1 }) : wpAny (model prog w) A (pyHash .none) Q E s := by
 unfold pyHash
 first | unfold pyHashByItsType | skip
 have hv : [Value.none].any Value.onHeap = false := rfl
 refine wpAny_bind ?_
 rw [cRoomFor,if_neg (by rw [hv]; exact Bool.false_ne_true)]; refine wpAny_pure ?_
 refine wpAny_bind (wpAny_specialOf (typeIs_none s) F.slot_NoneType_hash.lookup ?_)
 show wpAny _ _ (if (some (Value.builtin "NoneType.__hash__") == some Value.none) = true then _ else _) Q E s
 rw [if_neg (by rw [beq_builtin_none]; exact Bool.false_ne_true)]
 refine wpAny_bind (wpAny_specialOf (typeIs_none s) F.slot_NoneType_hash.lookup ?_)
 show wpAny _ _ (callSpecialIfBoundUnlessNone? .none "__hash__" _ >>= _) Q E s
 refine wpAny_bind (wpAny_callSpecialIfBoundUnlessNone?_slot (typeIs_none s) F.slot_NoneType_hash
  (wpAny_call_entry F.slot_NoneType_hash (typeIs_none s) F.entry_NoneType_hash
   (show wpAny _ _ (do ret (<- mkInt 0xFCA86420)) _ _ s from wpAny_ret_mkInt ?_) (F.args_NoneType_hash_1 _)))
 exact wpAny_pure h
def HashIs (prog : Program) (w : World) (u : Nat) (s : Shared) (v : Value) (n : Int) (d : Nat) : Prop :=
 ∀ (A : Around) (E : Value -> Shared -> Prop) (tk : Nat) (Q : Int -> Shared -> Prop),A.units <= u -> Q n { s with toks := tk + d } -> wpAny (model prog w) A (pyHash v) Q E { s with toks := tk }
theorem hash0_is {a : A0} {v : Value} {u : Nat} (h : a.val v) : HashIs prog w u s v (hash0 w a) 1 := by
 intro A E tk Q _ q
 cases a with
 | non => cases (show v = .none from h); exact pyHash_none (s := { s with toks := tk }) q
 | int i => obtain ⟨t,e⟩ := h; subst e; exact wpAny_pyHash_int (s := { s with toks := tk }) q
 | str x => obtain ⟨t,e⟩ := h; subst e; exact wpAny_pyHash_str (s := { s with toks := tk }) q
theorem pyHash_tup {a : Addr} {items : Array Value} {hs : List (Int × Nat)} {u : Nat} {Q : Int -> Shared -> Prop} (hu : A.units < cLine) (hu1 : A.units + 1 <= u) (ht : zbl s.heap a items)
  (hi : Paired (fun p v => HashIs prog w u s v p.1 p.2) hs items.toList) (h : Q (tupH (hs.map (·.1))) { s with toks := s.toks + ((hs.map (·.2)).sum + 1) }) : wpAny (model prog w) A (pyHash (.ref a)) Q E s := by
 obtain ⟨o,n,ho,hc,hd⟩ := ht
 have hT : s.TypeIs (.ref a) "tuple" := ⟨o,ho,hc⟩
 unfold pyHash
 first | unfold pyHashByItsType | skip
 first | refine wpAny_bind (wpAny_cRoomFor_or (.inr hu) ?_) | skip
 refine wpAny_bind (wpAny_specialOf hT F.slot_tuple_hash.lookup ?_)
 show wpAny _ _ (if (some (Value.builtin "tuple.__hash__") == some Value.none) = true then _ else _) Q E s
 rw [if_neg (by rw [beq_builtin_none]; exact Bool.false_ne_true)]
 refine wpAny_bind (wpAny_specialOf hT F.slot_tuple_hash.lookup ?_)
 show wpAny _ _ (callSpecialIfBoundUnlessNone? (.ref a) "__hash__" _ >>= _) Q E s
 refine wpAny_bind (wpAny_callSpecialIfBoundUnlessNone?_slot hT F.slot_tuple_hash (wpAny_call_entry F.slot_tuple_hash hT F.entry_tuple_hash ?_ (F.args_tuple_hash_1 _)))
 show wpAny _ _ (Builtin.Tuple.tupleItemsOf (.ref a) >>= _) _ _ s
 refine wpAny_bind (wpAny_tupleItemsOf ho hd ?_)
 refine wpAny_bind ?_
 rw [<- Array.forIn_toList]
 refine wpAny_forIn_list _
  (fun rest (b : Array Int) s' => ∃ done left,hs = done ++ left /\ Paired (fun p v => HashIs prog w u s v p.1 p.2) left rest /\ b.toList = done.map (·.1) /\ s' = { s with toks := s.toks + (done.map (·.2)).sum })
  _ ?_ ?_ _ _ ⟨[],hs,rfl,hi,rfl,rfl⟩
 ·rintro x rest b s' ⟨done,left,rfl,hl,hb,rfl⟩
  cases hl with
  | @cons k _ ks' _ h1 hl' =>
   refine wpAny_bind (h1 _ _ _ _ hu1 ?_)
   first
    | exact wpAny_pure ⟨done ++ [k],ks',by simp,hl',by simp [hb],by simp [Nat.add_assoc]⟩
    | exact wpAny_bind (wpAny_pure (wpAny_pure ⟨done ++ [k],ks',by simp,hl',by simp [hb],by simp [Nat.add_assoc]⟩))
 ·rintro b s' ⟨done,left,rfl,hl,hb,rfl⟩
  cases hl
  rw [List.append_nil] at h
  show wpAny _ _ (retInt (Builtin.Tuple.tupleHashOf b.toList)) _ _ _
  rw [hb]
  refine wpAny_ret_mkInt ?_
  show wpAny _ _ (if (decide (-(2 : Int) ^ 63 <= Builtin.Tuple.tupleHashOf (done.map (·.1))) && decide (Builtin.Tuple.tupleHashOf (done.map (·.1)) < 2 ^ 63)) = true then _ else _) Q E _
  unfold tupH reduceHash at h
  by_cases hr : (decide (-(2 : Int) ^ 63 <= Builtin.Tuple.tupleHashOf (done.map (·.1))) && decide (Builtin.Tuple.tupleHashOf (done.map (·.1)) < 2 ^ 63)) = true
  ·rw [if_pos hr]
   rw [if_pos hr] at h
   exact wpAny_pure (by simpa [Nat.add_assoc] using h)
  ·rw [if_neg hr]
   rw [if_neg hr] at h
   exact wpAny_bind (wpAny_rule (wpAny_pure (by simpa [Nat.add_assoc] using h)))
theorem hash1_is {a : A1} {v : Value} {u : Nat} (hu : u < cLine) (h : a.val s.heap v) : HashIs prog w u s v (hash1 w a) (draw1 a) := by
 cases a with
 | «at» a => exact hash0_is h
 | tup l =>
  obtain ⟨b,items,rfl,t,r⟩ := h
  intro A E tk Q hA q
  have hi : Paired (fun (p : Int × Nat) v => HashIs prog w (A.units + 1) { s with toks := tk } v p.1 p.2) (l.map fun a => (hash0 w a,1)) items.toList := by
   generalize items.toList = vs at r
   clear q t
   induction r with
   | nil => exact .nil
   | cons p _ ih => exact .cons (hash0_is p) ih
  refine pyHash_tup (s := { s with toks := tk }) (u := A.units + 1) (Nat.lt_of_le_of_lt hA hu) (Nat.le_refl _) t hi ?_
  have e1 : (l.map fun a => (hash0 w a,1)).map (·.1) = l.map (hash0 w) := by rw [List.map_map]; rfl
  have e2 : ((l.map fun a => (hash0 w a,1)).map (·.2)).sum = l.length := by
   clear hi r q
   rw [List.map_map]
   have : ∀ l : List A0,(l.map ((fun x => x.2) ∘ fun a => (hash0 w a,1))).sum = l.length := by
    intro l
    induction l with
    | nil => rfl
    | cons x l ih => simp only [List.map_cons,List.sum_cons,List.length_cons,ih,Function.comp]; omega
   exact this l
  rw [e1,e2]
  exact q
theorem hashLK {k : LK} {a : Addr} {Q : Int -> Shared -> Prop} (hu : A.units + 4 < cLine) (hk : isLK s.heap k a) (h : Q (tupH (k.map (hash1 w))) { s with toks := s.toks + ((k.map draw1).sum + 1) }) : wpAny (model prog w) A (pyHash (.ref a)) Q E s := by
 obtain ⟨items,t,r⟩ := hk
 have hi : Paired (fun (p : Int × Nat) v => HashIs prog w (A.units + 1) s v p.1 p.2) (k.map fun a => (hash1 w a,draw1 a)) items.toList := by
  generalize items.toList = vs at r
  clear h
  induction r with
  | nil => exact .nil
  | cons p _ ih => exact .cons (hash1_is (by omega) p) ih
 refine pyHash_tup (u := A.units + 1) (by omega) (Nat.le_refl _) t hi ?_
 have e1 : (k.map fun a => (hash1 w a,draw1 a)).map (·.1) = k.map (hash1 w) := by rw [List.map_map]; rfl
 have e2 : (k.map fun a => (hash1 w a,draw1 a)).map (·.2) = k.map draw1 := by rw [List.map_map]; rfl
 rw [e1,e2]
 exact h
def A0.d : A0 -> PyData
 | .non => .none
 | .int i => .int i
 | .str x => .str x
def A1.d : A1 -> PyData
 | .at a => a.d
 | .tup l => .tuple (l.map A0.d)
def dLK (k : LK) : PyData := .tuple (k.map A1.d)
def A0.ok : A0 -> Bool
 | .str x => PyData.strOk x
 | _ => true
def A1.ok : A1 -> Bool
 | .at a => a.ok
 | .tup l => l.all A0.ok
def okLK (k : LK) : Bool := k.all A1.ok
theorem eqv0 (x y : A0) : PyData.eqv x.d y.d = decide (x = y) := by
 cases x <;> cases y <;> simp [A0.d,PyData.eqv,Bool.beq_eq_decide_eq]
theorem eqvAll0 : ∀ (l r : List A0),PyData.eqvAll (l.map A0.d) (r.map A0.d) = decide (l = r)
 | [],[] => by simp [PyData.eqvAll]
 | [],_ :: _ => by simp [PyData.eqvAll]
 | _ :: _,[] => by simp [PyData.eqvAll]
 | x :: l,y :: r => by
  simp only [List.map_cons,PyData.eqvAll,eqv0,eqvAll0 l r]
  by_cases h1 : x = y <;> by_cases h2 : l = r <;> simp [h1,h2]
theorem eqv1 (x y : A1) : PyData.eqv x.d y.d = decide (x = y) := by
 cases x with
 | «at» a =>
  cases y with
  | «at» b => simp only [A1.d,eqv0]; by_cases h : a = b <;> simp [h]
  | tup l => cases a <;> simp [A1.d,A0.d,PyData.eqv]
 | tup l =>
  cases y with
  | «at» b => cases b <;> simp [A1.d,A0.d,PyData.eqv]
  | tup r => simp only [A1.d,PyData.eqv,eqvAll0]; by_cases h : l = r <;> simp [h]
theorem eqvAll1 : ∀ (l r : LK),PyData.eqvAll (l.map A1.d) (r.map A1.d) = decide (l = r)
 | [],[] => by simp [PyData.eqvAll]
 | [],_ :: _ => by simp [PyData.eqvAll]
 | _ :: _,[] => by simp [PyData.eqvAll]
 | x :: l,y :: r => by
  simp only [List.map_cons,PyData.eqvAll,eqv1,eqvAll1 l r]
  by_cases h1 : x = y <;> by_cases h2 : l = r <;> simp [h1,h2]
theorem reads0 {h : Heap} {a : A0} {v : Value} (p : a.val v) (o : a.ok = true) : Reads h v a.d [] /\ a.d.canLay0 = true /\ a.d.depth = 0 := by
 cases a with
 | non => cases (show v = .none from p); exact ⟨.none,rfl,rfl⟩
 | int i => obtain ⟨t,e⟩ := p; subst e; exact ⟨.int i t,rfl,rfl⟩
 | str x => obtain ⟨t,e⟩ := p; subst e; exact ⟨.str x t,by simp only [A0.d,PyData.canLay0]; exact o,rfl⟩
theorem readsAll0 {h : Heap} : ∀ {l : List A0} {vs : List Value},Paired A0.val l vs -> l.all A0.ok = true -> ReadsAll h vs (l.map A0.d) [] /\ PyData.canLayAll0 (l.map A0.d) = true /\ PyData.depthAll (l.map A0.d) = 0
 | _,_,.nil,_ => ⟨.nil,rfl,rfl⟩
 | x :: l,_,.cons p r,o => by
  rw [List.all_cons,Bool.and_eq_true] at o
  obtain ⟨r1,c1,d1⟩ := reads0 (h := h) p o.1
  obtain ⟨r2,c2,d2⟩ := readsAll0 (h := h) r o.2
  exact ⟨.cons r1 r2,by simp only [List.map_cons,PyData.canLayAll0,c1,c2,Bool.and_self],by simp only [List.map_cons,PyData.depthAll,d1,d2]; rfl⟩
theorem reads1 {h : Heap} {a : A1} {v : Value} (p : a.val h v) (o : a.ok = true) : Reads h v a.d [] /\ a.d.canLay0 = true /\ a.d.depth <= 1 := by
 cases a with
 | «at» a =>
  obtain ⟨r,c,d⟩ := reads0 (h := h) p o
  exact ⟨r,c,by show a.d.depth <= 1; omega⟩
 | tup l =>
  obtain ⟨b,items,rfl,⟨ob,n,e,c,d⟩,r⟩ := p
  obtain ⟨r1,c1,d1⟩ := readsAll0 (h := h) r o
  exact ⟨.tuple e c d r1,by simpa only [A1.d,PyData.canLay0] using c1,by simp only [A1.d,PyData.depth,d1]; omega⟩
theorem readsAll1 {h : Heap} : ∀ {l : LK} {vs : List Value},Paired (A1.val h) l vs -> l.all A1.ok = true -> ReadsAll h vs (l.map A1.d) [] /\ PyData.canLayAll0 (l.map A1.d) = true /\ PyData.depthAll (l.map A1.d) <= 1
 | _,_,.nil,_ => ⟨.nil,rfl,Nat.zero_le _⟩
 | x :: l,_,.cons p r,o => by
  rw [List.all_cons,Bool.and_eq_true] at o
  obtain ⟨r1,c1,d1⟩ := reads1 (h := h) p o.1
  obtain ⟨r2,c2,d2⟩ := readsAll1 (h := h) r o.2
  exact ⟨.cons r1 r2,by simp only [List.map_cons,PyData.canLayAll0,c1,c2,Bool.and_self],by simp only [List.map_cons,PyData.depthAll]; omega⟩
theorem readsLK {h : Heap} {k : LK} {a : Addr} (p : isLK h k a) (o : okLK k = true) : Reads h (.ref a) (dLK k) [] /\ (dLK k).canLay0 = true /\ (dLK k).depth <= 2 := by
 obtain ⟨items,⟨ob,n,e,c,d⟩,r⟩ := p
 obtain ⟨r1,c1,d1⟩ := readsAll1 (h := h) r o
 exact ⟨.tuple e c d r1,by simpa only [dLK,PyData.canLay0] using c1,by simp only [dLK,PyData.depth]; omega⟩
theorem eqLK {x y : LK} {a b : Addr} {Q : Bool -> Shared -> Prop} (hu : A.units + 4 < cLine) (hx : isLK s.heap x a) (hy : isLK s.heap y b) (ox : okLK x = true) (oy : okLK y = true) (h : Q (decide (x = y)) s) :
  wpAny (model prog w) A (eqBool (.ref a) (.ref b)) Q E s := by
 obtain ⟨r1,c1,d1⟩ := readsLK hx ox
 obtain ⟨r2,c2,d2⟩ := readsLK hy oy
 refine SeqAt.eqBoolOverData prog w A E s _ _ _ _ _ _ Q r1 r2 c1 c2 (by omega) ?_
 show Q (PyData.eqvAll (x.map A1.d) (y.map A1.d)) s
 rw [eqvAll1]
 exact h
theorem quiet_tup {n : Nat} {a : Addr} {items : Array Value} {Q : Bool -> Shared -> Prop} (ht : zbl s.heap a items) (hi : ∀ v ∈ items.toList,∀ Q' : Bool -> Shared -> Prop,Q' true s -> wpAny (model prog w) A (eqIsQuiet n v) Q' E s) (h : Q true s) :
  wpAny (model prog w) A (eqIsQuiet (n + 1) (.ref a)) Q E s := by
 obtain ⟨o,k,ho,hc,hd⟩ := ht
 have hT : s.TypeIs (.ref a) "tuple" := ⟨o,ho,hc⟩
 unfold eqIsQuiet
 refine wpAny_bind (wpAny_specialOf hT F.slot_tuple_eq.lookup ?_)
 show wpAny _ _ (isInstance (.ref a) (.type "tuple") >>= _) _ _ s
 refine wpAny_bind (wpAny_isInstance hT isSubtype_tuple_tuple ?_)
 simp only [Bool.not_true,Bool.false_eq_true,if_false]
 refine wpAny_bind (wpAny_seqItems ho hd ?_)
 refine wpAny_bind ?_
 show wpAny _ _ (forIn items _ _) _ _ s
 rw [<- Array.forIn_toList]
 refine wpAny_forIn_list _ (fun rest r s' => r.1 = none /\ s' = s /\ ∀ v ∈ rest,v ∈ items.toList) _ ?_ ?_ _ _ ⟨rfl,rfl,fun v hv => hv⟩
 ·rintro v rest r s' ⟨hr,rfl,hall⟩
  refine wpAny_bind (hi v (hall v List.mem_cons_self) _ ?_)
  simp only [Bool.not_true,Bool.false_eq_true,if_false]
  exact wpAny_pure ⟨rfl,rfl,fun u hu' => hall u (List.mem_cons_of_mem _ hu')⟩
 ·rintro ⟨r1,r2⟩ s' ⟨hr,rfl,_⟩
  simp only at hr
  subst hr
  exact wpAny_pure h
theorem quiet0 {n : Nat} {a : A0} {v : Value} {Q : Bool -> Shared -> Prop} (p : a.val v) (h : Q true s) : wpAny (model prog w) A (eqIsQuiet n v) Q E s := by
 have hv : carriedByValue v = true := by
  cases a with
  | non => cases (show v = .none from p); rfl
  | int i => obtain ⟨t,e⟩ := p; subst e; rfl
  | str x => obtain ⟨t,e⟩ := p; subst e; rfl
 rw [eqIsQuiet_byValue _ hv]
 exact wpAny_pure h
theorem Paired.memR {α β : Type} {F : α -> β -> Prop} : ∀ {l : List α} {r : List β} {v : β},Paired F l r -> v ∈ r -> ∃ x,F x v
 | _,_,_,.nil,h => by simp at h
 | _,_,_,.cons p q,h => by
  rcases List.mem_cons.mp h with e | h
  ·subst e; exact ⟨_,p⟩
  ·exact Paired.memR q h
theorem quiet1 {n : Nat} {a : A1} {v : Value} {Q : Bool -> Shared -> Prop} (p : a.val s.heap v) (h : Q true s) : wpAny (model prog w) A (eqIsQuiet (n + 1) v) Q E s := by
 cases a with
 | «at» a => exact quiet0 p h
 | tup l =>
  obtain ⟨b,items,rfl,t,r⟩ := p
  exact quiet_tup t (fun v hv Q' q => by obtain ⟨x,hx⟩ := Paired.memR r hv; exact quiet0 hx q) h
def lkKind (prog : Program) (w : World) : HeapKind prog w LK where
 is := fun h k a => isLK h k a /\ okLK k = true
 hash := fun k => tupH (k.map (hash1 w))
 draws := fun k => (k.map draw1).sum + 1
 room := fun A => A.units + 4 < cLine
 inj := fun x y => x.1.inj y.1
 keeps := fun x ho hd hs => ⟨x.1.keeps ho hd hs,x.2⟩
 pyHash := fun hu hk h => hashLK hu hk.1 h
 eqBool := fun hu hx hy h => eqLK hu hx.1 hy.1 hx.2 hy.2 h
 quiet := fun hk h => by
  obtain ⟨⟨items,t,r⟩,_⟩ := hk
  exact quiet_tup t (fun v hv Q' q => by obtain ⟨x,hx⟩ := Paired.memR r hv; exact quiet1 hx q) h
end
def rawD (P : Program) (w : World) (a : Addr) (xs : List (LK × Addr × Value)) (h : Heap) : Prop :=
 (a == sysModules) = false /\ xs.length <= sizeLine /\ (∀ x ∈ xs,okLK x.1 = true) /\ (xs.map (·.1)).Nodup /\ ∃ o es ep,h.get? a = some o /\ o.ExactDict /\ o.data = .dict es ep /\ es.toList = xs.map (entryOfKey (lkKind P w))
theorem rawD_obj {P : Program} {w : World} {H : Hp} {h : Heap} {a : Addr} {xs : List (LK × Addr × Value)} (r : rawD P w a xs h) : za2 P w H h a (.ext (rawD P w a xs)) := by
 obtain ⟨h1,h2,h3,h4,o,es,ep,e,r⟩ := id r
 exact ⟨⟨h1,h2,h3,h4,o,es,ep,e,r⟩,⟨o,e⟩,fun g1 g2 ⟨q1,q2,q3,q4,o',es',ep',e',r'⟩ k => ⟨q1,q2,q3,q4,o',es',ep',k _ e',r'⟩⟩
end L2
set_option Elab.async false
set_option linter.all false
set_option maxRecDepth 100000
set_option maxHeartbeats 4000000
namespace L2
open PySem PySem.Spec PyProof.Rows
def Raw (h : Heap) (d : Addr) (es : Array DictEntry) (ep : Nat) : Prop := ∃ o,h.get? d = some o /\ o.ExactDict /\ o.data = .dict es ep
theorem Raw.ty {s : Shared} {d : Addr} {es : Array DictEntry} {ep : Nat} (r : Raw s.heap d es ep) : s.TypeIs (.ref d) "dict" := let ⟨o,e,x,_⟩ := r; ⟨o,e,x.1⟩
theorem Raw.mv {h g : Heap} {d : Addr} {es : Array DictEntry} {ep : Nat} (r : Raw h d es ep) (k : ∀ o,h.get? d = some o -> g.get? d = some o) : Raw g d es ep := let ⟨o,e,x⟩ := r; ⟨o,k o e,x⟩
theorem Raw.lt {h : Heap} {d : Addr} {es : Array DictEntry} {ep : Nat} (r : Raw h d es ep) : d < h.objs.size := let ⟨_,e,_⟩ := r; Heap.lt_size e
abbrev kIt : String := "dict_keyiterator"
section
variable {prog : Program} {w : World} {A : Around} {E : Value -> Shared -> Prop} {s : Shared} {d it : Addr} {es : Array DictEntry} {ep i : Nat}
theorem raw_iter {Q : Value -> Shared -> Prop} (nd : (d == sysModules) = false) (r : Raw s.heap d es ep)
  (q : Q (.ref s.heap.objs.size) { s with heap := s.heap.push { cls := .type kIt,data := .fields #[.ref d,.int 0 0,.int es.size 0,.int ep 0] } }) : wpAny (model prog w) A (pyIter (.ref d)) Q E s := by
 obtain ⟨o,e1,e2,e3⟩ := id r
 have ty := r.ty
 refine wpAny_pyIter_slot ty F.slot_dict_iter (wpAny_call_entry F.slot_dict_iter ty F.entry_dict_iter ?body (F.args_dict_iter_1 _))
 unfold Builtin.«dict.__iter__» Builtin.Dict.dictSlotNone
 refine wpAny_bind (wpAny_bind (wpAny_notOrdered_dict ty (show wpAny _ _ (pure (Value.ref d)) _ _ s from wpAny_pure ?go)))
 change wpAny _ _ (Builtin.Dict.showsAll d >>= fun _ => _) _ _ s
 unfold Builtin.Dict.showsAll
 rw [nd,if_neg Bool.false_ne_true]
 exact wpAny_bind (wpAny_pure (wpAny_bind (wpAny_dictEntries e1 e3 (wpAny_bind (wpAny_dictEpoch e1 e3 (wpAny_bind (wpAny_newObj_type (wpAny_pure ⟨_,rfl,kIt,_,⟨_,Heap.get?_push_size _ rfl,rfl⟩,F.slot_dict_keyiterator_next.lookup,by simpa [rawInt] using q⟩))))))))
theorem raw_next {Q : Option Value -> Shared -> Prop} (ki : s.heap.IsKeyIter it d i es.size ep) (r : Raw s.heap d es ep)
  (there : ∀ h' v,es[i]?.map (·.key) = some v -> h'.IsKeyIter it d (i + 1) es.size ep -> Heap.SameBut it s.heap h' -> Q (some v) { s with heap := h' })
  (out : es.size <= i -> ∀ h',Heap.ExtBut it s.heap h' -> Q none { s with heap := h' }) (hh : A.handled = none) : wpAny (model prog w) A (pyNext (.ref it)) Q E s := by
 obtain ⟨oi,a1,a2,a3⟩ := id ki
 obtain ⟨od,b1,b2,b3⟩ := id r
 have ty := ki.typeIs
 unfold pyNext
 refine wpAny_bind (wpAny_attempt (wpAny_callSpecial?_slot (name := Str.ofString "__next__") ty F.slot_dict_keyiterator_next (wpAny_call_entry F.slot_dict_keyiterator_next ty F.entry_dict_keyiterator_next ?body (F.args_dict_keyiterator_next_1 _))))
 refine wpAny_bind (wpAny_pure (wpAny_bind (wpAny_bind ?_)))
 first | refine wpAny_bind (wpAny_typeNameOfWhole_keyiter ty (wpAny_pure ?_)) | refine wpAny_bind (wpAny_typeNameOf_keyiter ty (wpAny_pure ?_))
 refine wpAny_bind (wpAny_fieldsOf a1 a3 ?_)
 rw [show Builtin.Dict_items.ownsTuple kIt = false by decide,if_neg Bool.false_ne_true]
 change wpAny _ _ (if (Value.ref d == Value.none) = true then _ else _) _ _ s
 rw [if_neg (show ¬ ((Value.ref d == Value.none) = true) from Bool.false_ne_true)]
 refine wpAny_bind (wpAny_pure (wpAny_bind (wpAny_dictEntries b1 b3 ?_)))
 rw [if_neg (by simp)]
 refine wpAny_bind (wpAny_pure (wpAny_bind (wpAny_dictEpoch b1 b3 ?_)))
 rw [if_neg (by simp)]
 refine wpAny_pure ?_
 have ni : ¬ ((i : Int) < 0) := by omega
 by_cases lt : i < es.size
 ·simp only [ni,if_false,Int.toNat_natCast,Array.getElem?_eq_getElem lt]
  refine wpAny_bind ?_
  first | refine wpAny_bind (wpAny_typeNameOfWhole_keyiter ty (wpAny_pure ?_)) | refine wpAny_bind (wpAny_typeNameOf_keyiter ty (wpAny_pure ?_))
  refine wpAny_bind (wpAny_isOneOf_keyiter ty ?_)
  change wpAny _ _ (setField (.ref it) 1 (rawInt ((i : Int) + 1)) >>= fun _ => _) _ _ s
  refine wpAny_bind (wpAny_setField a1 a3 (by simp) ?_)
  have ki' : (s.heap.update it (Obj.mapFields (·.setIfInBounds 1 (rawInt ((i : Int) + 1))))).IsKeyIter it d (i + 1) es.size ep := by
   refine ⟨_,Heap.get?_update_self _ a1 (Obj.isFreed_of_fields (Obj.data_mapFields a3 _)),(Obj.cls_mapFields ..).trans a2,?_⟩
   rw [Obj.data_mapFields a3]; simp [rawInt]
  refine wpAny_bind (wpAny_holding (wpAny_bind (wpAny_isOneOf_keyiter (s := { s with heap := s.heap.update it (Obj.mapFields (·.setIfInBounds 1 (rawInt ((i : Int) + 1)))) }) ki'.typeIs ?_)))
  change wpAny _ _ (pure es[i].key) _ _ _
  exact wpAny_pure (wpAny_pure ⟨_,rfl,wpAny_pure (there _ _ (by simp [lt]) ki' (Heap.SameBut.update ..))⟩)
 ·have ge : es.size <= i := by omega
  simp only [ni,if_false,Int.toNat_natCast,Array.getElem?_eq_none ge]
  refine wpAny_bind ?_
  first | refine wpAny_bind (wpAny_typeNameOfWhole_keyiter ty (wpAny_pure ?_)) | refine wpAny_bind (wpAny_typeNameOf_keyiter ty (wpAny_pure ?_))
  change wpAny _ _ (setField (.ref it) 0 .none >>= fun _ => _) _ _ s
  refine wpAny_bind (wpAny_setField a1 a3 (by simp) ?_)
  change wpAny _ _ (newExc (.type "StopIteration") [] >>= fun _ => _) _ _ _
  simp only [newExc,newTuple,raiseNew]
  refine wpAny_bind (wpAny_bind (wpAny_newObj_type (wpAny_bind (m := firstArgMember _ _) (wpAny_of_eq (a := Value.none) (by first | rfl | (simp only [firstArgMember]; rfl)) (wpAny_newObj_type ?_ (by size_fits)))) (by size_fits)))
  refine wpAny_bind (wpAny_handled ?_)
  rw [show A.in1.handled = none from hh]
  refine wpAny_bind (wpAny_pure (wpAny_throw ?_))
  refine wpAny_bind (wpAny_isInstance (T := "StopIteration") (b := true) ⟨_,Heap.get?_push_size _ rfl,rfl⟩ isSubtype_stop ?fin)
  exact wpAny_pure (out ge _ (((Heap.SameBut.update ..).extBut.push _).push _))
theorem raw_walks (hh : A.handled = none) (I d : Addr) (ne : d ≠ I) (es : Array DictEntry) (ep : Nat) :
  Walks prog w A I [I,d] [I] es.size (fun i v => es[i]?.map (·.key) = some v) (fun i h => h.IsKeyIter I d i es.size ep /\ Raw h d es ep) where
 sub := fun b hb => by rcases List.mem_singleton.mp hb with rfl; exact List.mem_cons_self
 frame := fun _ _ _ st k => ⟨st.1.at fun o e => k I List.mem_cons_self o e,st.2.mv fun o e => k d (List.mem_cons_of_mem _ List.mem_cons_self) o e⟩
 item := fun i s Q E lt st q => raw_next st.1 st.2 (fun h' v ev ki sb => q v h' s.toks ev ⟨ki,st.2.mv fun o e => (sb.2 d ne).trans e⟩ fun b o nb e => (sb.2 b fun z => nb (by rw [z]; exact List.mem_cons_self)).trans e) (fun ge => absurd lt (by omega)) hh
 done := fun s Q E st q => raw_next st.1 st.2 (fun h' v ev => by rw [Array.getElem?_eq_none (Nat.le_refl _)] at ev; cases ev) (fun _ h' x => q h' s.toks fun b o nb e => x b o (fun z => nb (by rw [z]; exact List.mem_cons_self)) e) hh
 self := fun _ _ _ _ st q => wpAny_pyIter_keyiter st.1 q
theorem raw_src (nd : (d == sysModules) = false) : PySem.W.KdlSrc prog w "dict" d d es.size (fun i v => es[i]?.map (·.key) = some v) (fun h => Raw h d es ep) where
 type := fun _ r => r.ty
 there := fun _ r => ⟨r.lt,r.lt⟩
 keep := fun _ _ r k => r.mv fun o e => k d (.inl rfl) o e
 notList := by decide
 notTuple := by decide
 hint := fun _ _ _ _ r q => PySem.W.kdl_hint_dict r.ty q
 iter := fun _ s hh r => ⟨_,_,(fun _ _ q => raw_iter nd r q),raw_walks hh _ d (Nat.ne_of_lt r.lt) es ep,⟨⟨_,Heap.get?_push_size _ rfl,rfl,rfl⟩,r.mv fun o e => Heap.get?_push_of_some _ e⟩⟩
theorem src_collect {T : String} {r : Addr} {n : Nat} {P : Nat -> Value -> Prop} {OK : Heap -> Prop} {Q : List Value -> Shared -> Prop} (K : PySem.W.KdlSrc prog w T r d n P OK) (hh : A.handled = none) (ok : OK s.heap) (hn : n <= sizeLine)
  (q : ∀ h' tk acc,(∀ b o,s.heap.get? b = some o -> h'.get? b = some o) -> ItemsOf P acc n -> Q acc.toList { s with heap := h',toks := tk }) : wpAny (model prog w) A (collect (.ref r)) Q E s := by
 have key : ∀ R : Result -> Shared -> Prop,(∀ h' tk acc c,(∀ b o,s.heap.get? b = some o -> h'.get? b = some o) -> h'.get? s.heap.objs.size = some { cls := .type "list",dict := none,data := .seq acc c,slots := #[] } -> ItemsOf P acc n -> R (.ok (.ret (.ref s.heap.objs.size))) { s with heap := h',toks := tk }) ->
   codeAny (model prog w) A (.builtin "proto.collect" ⟨[.ref r],[]⟩) R s := by
  intro R hR
  refine codeAny_builtin F.entry_proto_collect ?_
  rw [Around.under_plainId F.plain_proto_collect _]
  change wpAny _ A.in1 (newList [] >>= fun l => again (.builtin "list.__iadd__" ⟨[l,.ref r],[]⟩)) _ _ s
  refine wpAny_bind (wpAny_newObj_type (wpAny_pure ⟨plainId_quiet F.plain_list_iadd _,codeAny_builtin F.entry_list_iadd ?_⟩))
  rw [Around.under_plainId F.plain_list_iadd _]
  change wpAny _ A.in1 (Builtin.List.listExtendWith (.ref s.heap.objs.size) (.ref r) (.ref s.heap.objs.size)) _ _ _
  have lt := K.there _ ok
  exact PySem.W.kdl_extend (R := R) (s := { s with heap := s.heap.push { cls := .type "list",data := .seq ([] : List Value).toArray } }) K hh (K.keep _ _ ok fun b _ o e => Heap.get?_push_of_some _ e) s.heap.objs.size (Nat.ne_of_gt lt.1) (Nat.ne_of_gt lt.2) (.ref s.heap.objs.size) 0 (Heap.get?_push_size _ rfl)
   (fun h' tk acc c k e items => hR h' tk acc c (fun b o x => k b o (Nat.ne_of_lt (Heap.lt_size x)) (Heap.get?_push_of_some _ x)) e items) hn
 unfold collect
 refine wpAny_bind (wpAny_runValue (key _ fun h' tk acc c k e items => ?_))
 change wpAny _ A (load s.heap.objs.size >>= fun _ => _) _ _ _
 refine wpAny_bind (wpAny_load e (wpAny_pure ?_))
 exact q h' tk acc k items
theorem src_tuple {T : String} {r : Addr} {n : Nat} {P : Nat -> Value -> Prop} {OK : Heap -> Prop} (K : PySem.W.KdlSrc prog w T r d n P OK) (hn : n <= sizeLine) :
  MeetsIn prog w (Builtin.«tuple.__new__» ⟨[.type "tuple",.ref r],[]⟩) (fun A R s => A.handled = none /\ OK s.heap /\ ∀ (h' : Heap) (tk : Nat) (acc : Array Value),(∀ b o,s.heap.get? b = some o -> h'.get? b = some o) -> ItemsOf P acc n ->
   R (.ok (.ret (.ref h'.objs.size))) { s with heap := h'.push { cls := .type "tuple",data := .seq acc },toks := tk }) :=
 .of_wp fun A R s ⟨hh,ok,q⟩ => by
  have f1 := sub_tuple_self
  have f2 := init_tuple_lookup
  have f3 := madeHere_tuple
  have ty := K.type s ok
  have nt := K.notTuple
  have hh1 : A.in1.handled = none := hh
  wp_walk using wpAny_typeOf ty,src_collect (A := A.in1) K hh1 ok hn
  intro h' tk acc k items
  change wpAny _ _ (Builtin.Tuple.tupleExact acc.toList.toArray >>= fun v => ret v) _ _ _
  unfold Builtin.Tuple.tupleExact
  rw [Array.toArray_toList]
  exact wpAny_bind (wpAny_newObj_type (wpAny_pure ⟨_,rfl,q h' tk acc k items⟩) (show acc.size <= sizeLine by rw [items.1]; exact hn))
end
section
variable {X : Cx} {pins : List (Addr × Obj)} {σ : St} {H : Hp} {s : Shared} {p : Addr}
theorem tupD {Q : VK} {es : Array DictEntry} {ep : Nat} {ks : List V} (hc : X.calm = true) (I : Inv X pins σ H s) (nd : (p == sysModules) = false) (r : Raw s.heap p es ep) (rk : zav ks (es.toList.map (·.key))) (hn : es.size <= sizeLine)
  (q : ∀ l,H l = none -> Q (.ref l) (upd H l (.tup ks))) : wpAny (model X.prog X.w) X.A (call (.type "tuple") [.ref p]) (EP X pins σ Q) X.xe s := by
 refine callType_newIn F.called_tuple (by decide) (F.typeCall_tuple_1 _) (F.newCall_tuple_1 _) (fun obj => F.args_object_init_2 obj _) F.entry_tuple_new (src_tuple (raw_src (ep := ep) nd) hn) ⟨I.ok.hd hc,r,fun h' tk acc k items => ⟨⟨_,Heap.get?_push_size _ rfl,rfl⟩,?_⟩⟩
 have I1 : Inv X pins σ H { s with heap := h',toks := tk } := I.kept k
 have el : acc.toList = es.toList.map (·.key) := by
  refine List.ext_getElem? fun j => ?_
  rw [Array.getElem?_toList,List.getElem?_map,Array.getElem?_toList]
  cases e : acc[j]? with
  | some v => exact (items.2 j v e).symm
  | none =>
   have : acc.size <= j := by simpa using e
   rw [items.1] at this
   rw [Array.getElem?_eq_none this]; rfl
 have hf : H h'.objs.size = none := I1.hok.fresh (Nat.le_refl _)
 refine ⟨.ref h'.objs.size,upd H h'.objs.size (.tup ks),I1.laid (o := .tup ks) (fun b o e => Heap.get?_push_of_some _ e) (Nat.le_refl _) ⟨?_,acc.toList,by rw [el]; exact rk,⟨_,Heap.get?_push_size _ rfl,rfl,0,by simp⟩⟩,rfl,q _ hf⟩
 rw [rk.length,List.length_map,Array.length_toList]
 exact hn
end
end L2
set_option Elab.async false
set_option linter.all false
set_option maxRecDepth 100000
set_option maxHeartbeats 4000000
namespace L2
open PySem PySem.Spec PyProof.Rows
def clOf (env : Env) : List (Str × NameKind) -> List (Str × Addr) -> List (Str × Addr)
 | [],cs => cs
 | (n,k) :: r,cs => clOf env r (if k == .free then (n,(env.cells.lookup n).getD 0) :: cs else cs)
theorem clOf_mem {env : Env} : ∀ {names : List (Str × NameKind)} {cs : List (Str × Addr)} {p : Str × Addr},p ∈ clOf env names cs -> p ∈ cs ∨ ((p.1,NameKind.free) ∈ names /\ p.2 = (env.cells.lookup p.1).getD 0)
 | [],cs,p,h => .inl h
 | (n,k) :: r,cs,p,h => by
  unfold clOf at h
  rcases clOf_mem h with h | ⟨h,e⟩
  ·by_cases hk : (k == NameKind.free) = true
   ·rw [if_pos hk] at h
    rcases List.mem_cons.mp h with h | h
    ·subst h
     have : k = .free := by simpa using hk
     subst this
     exact .inr ⟨List.mem_cons_self,rfl⟩
    ·exact .inl h
   ·rw [if_neg hk] at h; exact .inl h
  ·exact .inr ⟨List.mem_cons_of_mem _ h,e⟩
theorem clOf_has {env : Env} {n : Str} : ∀ {names : List (Str × NameKind)} {cs : List (Str × Addr)},((n,NameKind.free) ∈ names ∨ ∃ a,(n,a) ∈ cs) -> ∃ a,(n,a) ∈ clOf env names cs
 | [],cs,h => by
  rcases h with h | h
  ·simp at h
  ·exact h
 | (m,k) :: r,cs,h => by
  unfold clOf
  refine clOf_has ?_
  rcases h with h | ⟨a,h⟩
  ·rcases List.mem_cons.mp h with h | h
   ·cases h
    exact .inr ⟨_,by rw [if_pos (by rfl)]; exact List.mem_cons_self⟩
   ·exact .inl h
  ·refine .inr ⟨a,?_⟩
   split
   ·exact List.mem_cons_of_mem _ h
   ·exact h
theorem clos_eq {env : Env} {scope : Scope} (h : ∀ x ∈ scope.names,x.2 = .free -> ∃ c,env.cells.lookup x.1 = some c) : closureFor scope env = pure (clOf env scope.names []) := by
 simp only [closureFor]
 generalize ([] : List (Str × Addr)) = cs
 revert h
 generalize scope.names = names
 intro h
 induction names generalizing cs with
 | nil => rfl
 | cons x r ih =>
  obtain ⟨n,k⟩ := x
  rw [List.forIn_cons]
  have hr := fun cs => ih cs (fun y hy => h y (List.mem_cons_of_mem _ hy))
  by_cases hk : (k == NameKind.free) = true
  ·have hk' : k = .free := by simpa using hk
   obtain ⟨c,hc⟩ := h (n,k) List.mem_cons_self hk'
   simp only at hc
   have e1 : cellOf env n = pure c := by unfold cellOf; rw [hc]
   simp only [hk,if_true,e1]
   unfold clOf
   rw [if_pos hk,hc]
   exact hr ((n,c) :: cs)
  ·simp only [hk,if_false]
   unfold clOf
   rw [if_neg hk]
   exact hr cs
theorem lookup_mapk (F : Str -> NameKind -> NameKind) : ∀ (names : List (Str × NameKind)) (x : Str),(names.map fun p => (p.1,F p.1 p.2)).lookup x = (names.lookup x).map (F x)
 | [],_ => rfl
 | (n,k) :: r,x => by
  rw [List.map_cons,List.lookup_cons,List.lookup_cons]
  cases hx : x == n with
  | true =>
   have e : x = n := by simpa using hx
   subst e
   rfl
  | false => exact lookup_mapk F r x
theorem lookup_relabel {env : Env} {names : List (Str × NameKind)} {x : Str} :
  (names.map fun (n,k) => if (k == NameKind.free && env.scope.kind == .function && env.kindOf n == some .cell) then (n,NameKind.cell) else (n,k)).lookup x =
   (names.lookup x).map fun k => if (k == NameKind.free && env.scope.kind == .function && env.kindOf x == some .cell) then NameKind.cell else k := by
 rw [<- lookup_mapk (fun n k => if (k == NameKind.free && env.scope.kind == .function && env.kindOf n == some .cell) = true then NameKind.cell else k)]
 congr 1
 refine List.map_congr_left fun p _ => ?_
 obtain ⟨n,k⟩ := p
 dsimp only
 split <;> rfl
section
variable {prog : Program} {w : World} {A : Around} {R : Result -> Shared -> Prop} {s : Shared}
theorem compLoop_any {elt target iter : Expr} {ifs : List Expr} {scope : Scope} {pos : Pos} {it acc : Value} {env : Env} (I : Nat -> Shared -> Prop)
  (turn : ∀ n s,I n s -> wpAny (model prog w) A (pyNext it) (fun r s₁ => match r with
   | none => R (.ok .next) s₁
   | some v => wpAny (model prog w) A (letOwnedTupleGo target it v) (fun _ s₀ => wpAny (model prog w) A (assign target env v) (fun _ s₂ =>
     wpAny (model prog w) A (forIn ifs true fun c r => if r = true then do let ok <- isTrue c env (eval c env); pure (ForInStep.yield ok) else pure (ForInStep.yield r)) (fun ok s₃ =>
      if ok = true then wpAny (model prog w) A (eval elt env) (fun x s₄ =>
       wpAny (model prog w) A (call (.builtin "list.append") [acc,x]) (fun _ s₅ => ∃ m,m < n /\ I m s₅) (fun _ _ => False) s₄) (fun _ _ => False) s₃
      else ∃ m,m < n /\ I m s₃) (fun _ _ => False) s₂) (fun _ _ => False) s₀) (fun _ _ => False) s₁) (fun _ _ => False) s)
  (n : Nat) (h : I n s) : codeAny (model prog w) A (.compLoop (.ListComp elt [⟨target,iter,ifs,0⟩] scope pos) 0 it acc env) R s := by
 refine codeAny_loop rfl I (fun n s hI => ?_) n h
 show wpAny _ A ((compTurn (.ListComp elt [⟨target,iter,ifs,0⟩] scope pos) 0 it acc env).onRaise (fun x => do noteFrame x env; theTreesLotGoes x)) _ _ s
 refine wpAny_noted ?_
 rw [compTurn_list]
 refine wpAny_bind (wpAny_standAt (wpAny_bind (wpAny_mono (turn n s hI) (fun r s₁ h₁ => ?_) fun _ _ f => f.elim)))
 cases r with
 | none => exact wpAny_pure h₁
 | some v =>
  refine wpAny_bind (wpAny_mono h₁ (fun _ s₀ h₀ => ?_) fun _ _ f => f.elim)
  refine wpAny_bind (wpAny_mono h₀ (fun _ s₂ h₂ => wpAny_bind (wpAny_mono h₂ (fun ok s₃ h₃ => ?_) fun _ _ f => f.elim)) fun _ _ f => f.elim)
  cases ok with
  | false => exact wpAny_pure ⟨rfl,h₃⟩
  | true =>
   exact wpAny_bind (wpAny_bind (wpAny_mono h₃ (fun x s₄ h₄ => wpAny_bind (wpAny_mono h₄ (fun _ s₅ h₅ => wpAny_pure (wpAny_pure ⟨rfl,h₅⟩)) fun _ _ f => f.elim)) fun _ _ f => f.elim))
end
def blk (X : Cx) (scope : Scope) (N : List Str) (fp : List Addr) (s : Shared) (H : Hp) (C : Addr) : Cx :=
 { X with env := compEnvC scope (clOf X.env scope.names []) C X.env,N := N,s₀ := s,H₀ := H,outer := X.stack,stack := X.stack,ex := fp,fn := fun _ => false,pn := X.pn,xe := fun _ _ => False }
def visS (sel : List (Option Nat)) (σ : St) : St := sel.map fun o => o.bind fun j => (σ[j]?).join
structure BlkOk (X : Cx) (scope : Scope) (N : List Str) (sel : List (Option Nat)) : Prop where
 kind : scope.kind = .function
 names : ∀ x ∈ scope.names,x.2 = .local -> scope.names.lookup x.1 = some .local
 nocell : ∀ x ∈ scope.names,x.2 ≠ .cell
 fr : ∀ x ∈ scope.names,x.2 = .free -> (X.env.kindOf x.1 = some .cell ∨ X.env.kindOf x.1 = some .free)
 len : sel.length = N.length
 sel : ∀ (i j : Nat) (x : Str),sel[i]? = some (some j) -> N[i]? = some x -> X.N[j]? = some x /\ scope.names.lookup x = some .free
theorem blk_kind {X : Cx} {scope : Scope} {N : List Str} {fp : List Addr} {s : Shared} {H : Hp} {C : Addr} (x : Str) :
  (blk X scope N fp s H C).env.kindOf x = (scope.names.lookup x).map fun k => if (k == NameKind.free && X.env.scope.kind == .function && X.env.kindOf x == some .cell) then NameKind.cell else k := lookup_relabel
section
variable {X : Cx} {scope : Scope} {N : List Str} {sel : List (Option Nat)} {fp : List Addr} {pins : List (Addr × Obj)} {σ : St} {H : Hp} {s : Shared} {C : Addr}
theorem BlkOk.cl1 (B : BlkOk X scope N sel) (ok : X.Ok) {x : Str} {c : Addr} (h : (clOf X.env scope.names []).lookup x = some c) : X.env.cells.lookup x = some c := by
 rcases clOf_mem (PySem.mem_of_lookup h) with h | ⟨h,e⟩
 ·simp at h
 ·obtain ⟨c',hc⟩ := ok.has x (B.fr _ h rfl)
  simp only at e
  rw [hc] at e
  simp only [Option.getD_some] at e
  rw [e]; exact hc
theorem BlkOk.cl2 (B : BlkOk X scope N sel) (ok : X.Ok) {x : Str} (h : scope.names.lookup x = some .free) : ∃ c,(clOf X.env scope.names []).lookup x = some c := by
 obtain ⟨a,ha⟩ := clOf_has (env := X.env) (n := x) (names := scope.names) (cs := []) (.inl (PySem.mem_of_lookup h))
 cases e : (clOf X.env scope.names []).lookup x with
 | some c => exact ⟨c,rfl⟩
 | none =>
  have := List.lookup_eq_none_iff.mp e (x,a) ha
  simp at this
theorem BlkOk.free_of (B : BlkOk X scope N sel) {x : Str} (h : (blk X scope N fp s H C).env.kindOf x = some .cell ∨ (blk X scope N fp s H C).env.kindOf x = some .free) : scope.names.lookup x = some .free := by
 rw [blk_kind] at h
 cases e : scope.names.lookup x with
 | none => rw [e] at h; simp at h
 | some k =>
  rw [e] at h
  have hm := PySem.mem_of_lookup e
  have nc := B.nocell _ hm
  cases k <;> simp at h nc ⊢
theorem blk_ok (B : BlkOk X scope N sel) (I : Inv X pins σ H s) (hf : ∀ b ∈ fp,FpOk X pins H b) (ho : ∀ b ∈ fp,b < s.heap.objs.size) (hC : s.heap.objs.size <= C) : (blk X scope N fp s H C).Ok where
 mod := I.ok.mod
 kind := B.kind
 glob := I.ok.glob
 blt := I.ok.blt
 above := hC
 inj := fun x y c h1 h2 => I.ok.inj x y c (B.cl1 I.ok h1) (B.cl1 I.ok h2)
 has := fun x h => B.cl2 I.ok (B.free_of h)
 cab := fun x c h => nomatch h
 hd := I.ok.hd
 frames := I.ok.frames
 stk := .inl rfl
 exf := fun b hb => ⟨Nat.ne_of_lt (Nat.lt_of_lt_of_le (ho b hb) hC),fun x c h => (hf b hb).2.2.2.2.1 x c (B.cl1 I.ok h)⟩
 bs := fun b o e => I.bs b o e
 bsz := Nat.le_trans I.ok.bsz I.sz
 noex := fun b o e hb => by
  rcases (hf b hb).2.2.2.1 with z | z
  ·exact I.ok.noex b o e z
  ·have := Heap.lt_size e
   exact absurd (Nat.lt_of_lt_of_le this (Nat.le_trans I.ok.bsz z)) (Nat.lt_irrefl _)
 exfs := fun b hb hm => by
  rcases List.mem_cons.mp (I.stkSub b hm) with e | e
  ·exact (hf b hb).2.1 e
  ·exact (hf b hb).2.2.1 e
 funs := I.stack
 frf := fun b hb => I.stkFree b hb
theorem blk_start (B : BlkOk X scope N sel) (I : Inv X pins σ H s) (hf : ∀ b ∈ fp,FpOk X pins H b) (ho : ∀ b ∈ fp,b < s.heap.objs.size) (hC : s.heap.objs.size <= C) {h' : Heap} {m : Str -> Option Value} {tk : Nat}
  (hn : h'.Ns C m) (k : ∀ b o,s.heap.get? b = some o -> h'.get? b = some o) : Inv (blk X scope N fp s H C) pins (visS sel σ) H { s with heap := h',toks := tk } where
 ok := blk_ok B I hf ho hC
 os := rfl
 bare := I.bare
 base := Un.kept k
 loc := ⟨m,hn,fun i x v h1 h2 h3 => by
  unfold visS at h2
  rw [List.getElem?_map] at h2
  cases e : sel[i]? with
  | none => rw [e] at h2; cases h2
  | some o =>
   rw [e] at h2
   cases o with
   | none => cases h2
   | some j =>
    have h2' : (σ[j]?).join = some v := by simpa using h2
    have h2'' : σ[j]? = some (some v) := by
     cases q : σ[j]? with
     | none => rw [q] at h2'; cases h2'
     | some z => rw [q] at h2'; simp at h2'; rw [h2']
    obtain ⟨hj,hfr⟩ := B.sel i j x e h1
    obtain ⟨m0,hn0,hl⟩ := I.loc
    have kx := B.fr _ (PySem.mem_of_lookup hfr) rfl
    obtain ⟨u,r,l⟩ := hl j x v hj h2'' (by rcases kx with z | z; exact .inr (.inl z); exact .inr (.inr z))
    refine ⟨u,r,.inr ⟨?_,?_⟩⟩
    ·rw [blk_kind,hfr]
     simp only [Option.map_some]
     split
     ·exact .inl rfl
     ·exact .inr rfl
    ·rcases l with ⟨z,_⟩ | ⟨_,c,hc,hcell⟩
     ·simp only at kx; rw [z] at kx; rcases kx with q | q <;> cases q
     ·obtain ⟨c',hc'⟩ := B.cl2 I.ok hfr
      have := B.cl1 I.ok hc'
      rw [hc] at this
      cases this
      obtain ⟨o,ho,hd⟩ := hcell
      exact ⟨c,hc',o,k c o ho,hd⟩⟩
 cell := fun x c h => by
  obtain ⟨v,o,ho,hd⟩ := I.cell x c (B.cl1 I.ok h)
  exact ⟨v,o,k c o ho,hd⟩
 free := I.hok.fresh hC
 freeC := fun x c h => I.freeC x c (B.cl1 I.ok h)
 pin := fun p hp => by
  obtain ⟨e,n,ne,nf,d⟩ := I.pin p hp
  refine ⟨k p.1 p.2 e,n,Nat.ne_of_lt (Nat.lt_of_lt_of_le (Heap.lt_size e) hC),fun hm => ?_,d⟩
  rcases List.mem_cons.mp (I.stkSub p.1 hm) with z | z
  ·exact ne z
  ·exact nf z
 hok := I.hok.kept k
 len := by unfold visS; rw [List.length_map]; exact B.len
end
def tComp (sel : List (Option Nat)) (wi : TI) (g : TG) (tc : TT) (te : TE) : TE := fun σ H Q => wi σ H fun J H1 => ∃ W : Nat -> Nat -> List V -> Hp -> Prop,(∃ m,W 0 m [] H1) /\ ∀ i m acc H,W i m acc H -> acc.length < sizeLine /\
 ((J.stop i H /\ ∀ d,H d = none -> Q (.ref d) (upd H d (.lst acc))) ∨
  (J.go i H /\ ∀ x H',J.yld i H x H' -> g x (visS sel σ) H' fun σ2 H2 => tc σ2 H2 fun b H3 => if b = true then te σ2 H3 fun y H4 => ∃ m',m' < m /\ W (i + 1) m' (acc ++ [y]) H4 else ∃ m',m' < m /\ W (i + 1) m' acc H3))
end L2
set_option Elab.async false
set_option linter.all false
set_option maxRecDepth 100000
set_option maxHeartbeats 4000000
namespace L2
open PySem PySem.Spec PyProof.Rows
section
variable {X : Cx} {scope : Scope} {N : List Str} {sel : List (Option Nat)} {fp : List Addr} {pins pins' : List (Addr × Obj)} {σ σ' : St} {H H' : Hp} {s s' : Shared} {C : Addr}
theorem blk_again (B : BlkOk X scope N sel) (I : Inv X pins σ H s) (hf : ∀ b ∈ fp,FpOk X pins H b) (hC : s.heap.objs.size <= C) (J : Inv (blk X scope N fp s H C) pins' σ' H' s') : Inv (blk X scope N fp s H C) pins' (visS sel σ) H' s' := by
 refine ⟨J.ok,J.os,J.bare,J.base,?_,J.cell,J.free,J.freeC,J.pin,J.hok,by unfold visS; rw [List.length_map]; exact B.len⟩
 obtain ⟨m,hn,_⟩ := J.loc
 refine ⟨m,hn,fun i x v h1 h2 h3 => ?_⟩
 unfold visS at h2
 rw [List.getElem?_map] at h2
 cases e : sel[i]? with
 | none => rw [e] at h2; cases h2
 | some o =>
  rw [e] at h2
  cases o with
  | none => cases h2
  | some j =>
   have h2' : (σ[j]?).join = some v := by simpa using h2
   have h2'' : σ[j]? = some (some v) := by
    cases q : σ[j]? with
    | none => rw [q] at h2'; cases h2'
    | some z => rw [q] at h2'; simp at h2'; rw [h2']
   obtain ⟨hj,hfr⟩ := B.sel i j x e h1
   obtain ⟨m0,hn0,hl⟩ := I.loc
   have kx := B.fr _ (PySem.mem_of_lookup hfr) rfl
   obtain ⟨u,r,l⟩ := hl j x v hj h2'' (by rcases kx with z | z; exact .inr (.inl z); exact .inr (.inr z))
   refine ⟨u,r,.inr ⟨?_,?_⟩⟩
   ·rw [blk_kind,hfr]
    simp only [Option.map_some]
    split
    ·exact .inl rfl
    ·exact .inr rfl
   ·rcases l with ⟨z,_⟩ | ⟨_,c,hc,hcell⟩
    ·simp only at kx; rw [z] at kx; rcases kx with q | q <;> cases q
    ·obtain ⟨c',hc'⟩ := B.cl2 I.ok hfr
     have := B.cl1 I.ok hc'
     rw [hc] at this
     cases this
     obtain ⟨o,ho,hd⟩ := hcell
     obtain ⟨sl,e2⟩ := J.base.any ho (I.freeC x c hc) (fun hm => (hf c hm).2.2.2.2.1 x c hc rfl)
     exact ⟨c,hc',_,e2,hd⟩
end
def PIfs (X : Cx) (ifs : List Expr) (t : TT) : Prop :=
 ∀ (pins : List (Addr × Obj)) (s : Shared) (σ : St) (H : Hp) (Q : Bool -> Hp -> Prop),Inv X pins σ H s -> t σ H Q ->
  wpAny (model X.prog X.w) X.A (forIn ifs true fun c r => if r = true then do let ok <- isTrue c X.env (eval c X.env); pure (ForInStep.yield ok) else pure (ForInStep.yield r)) (TP X pins σ Q) X.xe s
theorem pifs_nil {X : Cx} : PIfs X [] (fun σ H Q => Q true H) := fun _ _ σ H _ I h => wpAny_tests_nil ⟨H,I,h⟩
theorem pifs_one {X : Cx} {c : Expr} {t : TT} (hc : PT X c t) : PIfs X [c] t := fun pins s σ H Q I h => wpAny_tests_one (hc pins s σ H Q I h)
section
variable {X : Cx} {scope : Scope} {N : List Str} {sel : List (Option Nat)} {elt target iter : Expr} {ifs : List Expr} {wi : TI} {g : TG} {tc : TT} {te : TE} {pos : Pos}
theorem comp_core {use : Option (Value -> Sem Unit)} {Q' : Value -> Shared -> Prop} {fpos : Pos} (hc : X.calm = true) (B : BlkOk X scope N sel) (hi : PI X target iter wi)
  (hg : ∀ fp s H C,PG (blk X scope N fp s H C) target g) (ht : ∀ fp s H C,PIfs (blk X scope N fp s H C) ifs tc) (he : ∀ fp s H C,PE (blk X scope N fp s H C) elt te)
  (hs : ∀ x,foldedSetIterable iter X.env x = pure x) {pins : List (Addr × Obj)} {s : Shared} {σ : St} {H : Hp} {Q : VK} (I : Inv X pins σ H s) (h : tComp sel wi g tc te σ H Q)
  (fin' : ∀ (D C : Addr) (oC : Obj) (m : Str -> Option Value) (H4 : Hp) (s4 : Shared),Inv X (pins ++ [(C,oC)]) σ H4 s4 -> s4.heap.Ns C m -> (X.s₀.heap.objs.size <= C /\ C ≠ X.env.locals /\ (∀ x c,X.env.cells.lookup x = some c -> c ≠ C) /\ (∀ p ∈ X.pn ++ pins,p.1 ≠ C) /\ H4 C = none) -> Q (.ref D) H4 -> compPost (model X.prog X.w) X.A X.xe use Q' (.ref D) C (.ok .next) s4) :
  wpAny (model X.prog X.w) X.A (comprehension (.ListComp elt [⟨target,iter,ifs,0⟩] scope pos) scope X.env fpos (newList []) false (eval iter X.env) use) Q' X.xe s := by
 refine wpAny_comprehension_free (use := use) rfl hs (clos_eq fun x hx hk => I.ok.has x.1 (B.fr x hx hk)) B.kind B.names (thn (hi pins s σ H _ I h) fun v s1 h1 => thn h1 fun itv s2 h2 => ?_)
 obtain ⟨it,fp,tn,J,H2,e,I2,T,st2,f2,W,⟨m0,w0⟩,turn⟩ := h2
 subst e
 refine wpAny_newObj_type (wpAny_newFunctionEnv B.nocell (by intro y hy; simp at hy) (fun h₁ hns₁ hsb₁ => ?_) B.kind)
 dsimp only at hns₁ hsb₁ ⊢
 generalize hH2 : s2.heap.push { cls := .type "list",dict := none,data := .seq ([] : List Value).toArray } = HP at hns₁ hsb₁ ⊢
 have hCs : HP.objs.size = s2.heap.objs.size + 1 := by rw [<- hH2,Heap.size_push]
 generalize hCe : HP.objs.size = C at hns₁ hsb₁ hCs ⊢
 generalize hDe : s2.heap.objs.size = D at hCs ⊢
 have hDC : D ≠ C := by omega
 have hCle : s2.heap.objs.size <= C := by omega
 have k2 : ∀ b o,s2.heap.get? b = some o -> h₁.get? b = some o := fun b o e => hsb₁.extBut b o (Nat.ne_of_lt (Nat.lt_of_lt_of_le (Heap.lt_size e) hCle)) (Heap.get?_push_of_some _ (hH2 ▸ Heap.get?_push_of_some _ e))
 have hacc : h₁.PlainList D #[] := ⟨_,hsb₁.extBut _ _ hDC (Heap.get?_push_of_some _ (hH2 ▸ hDe ▸ Heap.get?_push_size _ rfl))⟩
 have ofp : ∀ b ∈ fp,b < s2.heap.objs.size := fun b hb => by obtain ⟨o,e,_⟩ := T.obj _ _ st2 b hb; exact Heap.lt_size e
 have I3 := blk_start (tk := s2.toks + ([] : List (Str × Value)).length) B I2 f2 ofp hCle hns₁ k2
 have stat : ∀ {H' : Hp} {o : Obj},(∀ b ∈ fp,H' b = none) -> ∀ b ∈ fp,FpOk (blk X scope N fp s2 H2 C) (pins ++ [(D,o)]) H' b := fun {H' o} hn b hb => by
  obtain ⟨_,f1,f2',f3,f4,f5⟩ := f2 b hb
  have hlt := ofp b hb
  refine ⟨hn b hb,Nat.ne_of_lt (Nat.lt_of_lt_of_le hlt hCle),fun hm => ?_,.inl hb,fun x c hx => f4 x c (B.cl1 I2.ok hx),fun p hp => ?_⟩
  ·rcases List.mem_cons.mp (I2.stkSub b hm) with e | e
   ·exact f1 e
   ·exact f2' e
  ·rcases List.mem_append.mp hp with z | z
   ·exact f5 p (List.mem_append_left _ z)
   ·rcases List.mem_append.mp z with z | z
    ·exact f5 p (List.mem_append_right _ z)
    ·have e : p = (D,o) := by simpa using z
     subst e
     exact Ne.symm (Nat.ne_of_lt (hDe ▸ hlt))
 have pinD : ∀ {σ' : St} {H' : Hp} {s' : Shared} {ps : List (Addr × Obj)} {o : Obj},Inv (blk X scope N fp s2 H2 C) ps σ' H' s' -> (∀ p ∈ pins,p ∈ ps) -> s'.heap.get? D = some o -> H' D = none -> (∀ v,o.data ≠ .cell v) -> Inv (blk X scope N fp s2 H2 C) (pins ++ [(D,o)]) σ' H' s' := fun {σ' H' s' ps o} I' hps hD hn hd => I'.pins_of fun p hp => by
  rcases List.mem_append.mp hp with z | z
  ·exact I'.pin p (List.mem_append_right _ (hps p z))
  ·have e : p = (D,o) := by simpa using z
   subst e
   refine ⟨hD,hn,hDC,fun hm => ?_,hd⟩
   obtain ⟨_,o',ho',_⟩ := I2.stack.mem hm
   exact Nat.lt_irrefl _ (hDe ▸ Heap.lt_size ho')
 have loop : codeAny (model X.prog X.w) X.A (.compLoop (.ListComp elt [⟨target,iter,ifs,0⟩] scope pos) 0 (.ref it) (.ref D) (compEnvC scope (clOf X.env scope.names []) C X.env))
   (compPost (model X.prog X.w) X.A X.xe use Q' (.ref D) C) { s2 with heap := h₁,toks := s2.toks + ([] : List (Str × Value)).length } := by
  refine compLoop_any (fun n s' => ∃ i acc H' its o,Inv (blk X scope N fp s2 H2 C) (pins ++ [(D,o)]) (visS sel σ) H' s' /\ tn i s'.heap /\ (∀ b ∈ fp,H' b = none) /\ W i n acc H' /\ zav acc its /\ (∃ k,o = { cls := .type "list",data := .seq its.toArray k }) /\ H' D = none) ?_ m0 ?_
  ·rintro n s3 ⟨i,acc,H3,its,o,J3,st3,fr3,w3,rv,⟨kk,ho⟩,hDn⟩
   have hd : ∀ v,o.data ≠ .cell v := fun v z => by subst ho; cases z
   obtain ⟨hsz,go⟩ := turn i n acc H3 w3
   rcases go with ⟨stop,qn⟩ | ⟨go,step⟩
   ·refine thn (T.done (blk X scope N fp s2 H2 C) rfl rfl rfl hc i _ s3 _ H3 (fun _ _ => False) J3 (stat fr3) st3 stop) fun r s4 ⟨hr,J4⟩ => ?_
    subst hr
    obtain ⟨m,hn,_⟩ := id J4.loc
    have hD4 := (J4.pin (D,o) (by simp)).1
    simp only at hD4
    have u4 := J4.base
    have neD : ∀ b ob,s2.heap.get? b = some ob -> b ≠ D := fun b ob e => Nat.ne_of_lt (hDe ▸ Heap.lt_size e)
    have neC : ∀ b ob,s2.heap.get? b = some ob -> b ≠ C := fun b ob e => Nat.ne_of_lt (Nat.lt_of_lt_of_le (Heap.lt_size e) hCle)
    have hfree : H3 C = none := J4.free
    have hok : HOk X.prog X.w (upd H3 D (.lst acc)) s4.heap := fun b ob e => by
     by_cases z : b = D
     ·subst z
      rw [zag] at e
      cases e
      subst ho
      exact ⟨Nat.le_of_lt hsz,its,kk,rv,hD4⟩
     ·rw [zah z] at e
      exact (J4.hok b ob e).stay (fun c w' hc' q => q) (fun c q => by rw [zah (zao q hDn)]; exact q) (fun c xs q => by rw [zah (zao q hDn)]; exact q)
    have I4 : Inv X pins σ (upd H3 D (.lst acc)) s4 := by
     refine I2.call' (ch := fp) (s' := s4) J4.os ⟨?_,?_,?_,?_,?_,?_,?_⟩ hok J4.bare (fun b hb => ?_)
     ·exact fun b ob e hn' hb hx => u4.keep b ob e hn' hb hx
     ·exact fun b ob e hn' hb hx => u4.slot b ob e hn' hb hx
     ·intro b ob e hn' hx
      rw [zah (neD b ob e)]
      exact u4.free b ob e hn' hx
     ·exact fun b ob e hx => u4.there b ob e hx
     ·intro b xs e
      have q := u4.tups b xs e
      rw [zah (zao q hDn)]; exact q
     ·intro b ob xs e
      have q := u4.frzs b ob xs e
      rw [zah (zao q hDn)]; exact q
     ·intro b ps e
      obtain ⟨more,q⟩ := u4.tbls b ps e
      exact ⟨more,by rw [zah (zao q hDn)]; exact q⟩
     ·obtain ⟨_,f1,_,f3,f4,f5⟩ := f2 b hb
      exact ⟨f3,f1,f4,f5⟩
    obtain ⟨oC,esC,epC,eC,dC,rC⟩ := id hn
    have hnC : (upd H3 D (.lst acc)) C = none := by rw [zah (Ne.symm hDC)]; exact hfree
    have neL : C ≠ X.env.locals := by
     obtain ⟨mL,⟨oL,_,_,eL,_⟩,_⟩ := I2.loc
     exact Ne.symm (neC _ _ eL)
    have neCell : ∀ x c,X.env.cells.lookup x = some c -> c ≠ C := fun x c hx => by
     obtain ⟨v,ob,hob,_⟩ := I2.cell x c hx
     exact neC _ _ hob
    have nePin : ∀ p ∈ X.pn ++ pins,p.1 ≠ C := fun p hp => neC _ _ (I2.pin p hp).1
    have I5 : Inv X (pins ++ [(C,oC)]) σ (upd H3 D (.lst acc)) s4 := I4.pins_of fun p hp => by
     rcases List.mem_append.mp hp with z | z
     ·exact I4.pin p (List.mem_append_right _ z)
     ·have e : p = (C,oC) := by simpa using z
      subst e
      refine ⟨eC,hnC,neL,fun hm => ?_,fun v z => by rw [dC] at z; cases z⟩
      obtain ⟨_,o',ho',_⟩ := I2.funs.mem hm
      exact neC _ _ ho' rfl
    exact fin' D C oC m _ s4 I5 hn ⟨Nat.le_trans I2.sz hCle,neL,neCell,nePin,hnC⟩ (qn D hDn)
   ·refine thn (T.item (blk X scope N fp s2 H2 C) rfl rfl rfl hc i _ s3 _ H3 (fun _ _ => False) J3 (stat fr3) st3 go) fun r s4 ⟨u,hr,h4⟩ => ?_
    subst hr
    refine thn h4 fun _ s5 ⟨x,H5,J5,r5,y5,st5,fr5⟩ => ?_
    have J5' := J5.pinned (stat fr5) (T.obj _ _ st5)
    have hD5 : H5 D = none := (J5.pin (D,o) (by simp)).2.1
    refine thn (hg _ _ _ _ _ s5 _ H5 x u _ J5' r5 (step x H5 y5)) fun _ s6 ⟨σ6,H6,J6,q6⟩ => ?_
    refine thn (ht _ _ _ _ _ s6 σ6 H6 _ J6 q6) fun b s7 ⟨H7,J7,q7⟩ => ?_
    have fin : ∀ {σ8 : St} {H8 : Hp} {s8 : Shared} {acc8 : List V} {m' : Nat} {its8 : List Value} {o8 : Obj},Inv (blk X scope N fp s2 H2 C) (pins ++ [(D,o8)]) σ8 H8 s8 -> (∀ b ∈ fp,∀ ob,s5.heap.get? b = some ob -> s8.heap.get? b = some ob) -> (∀ b ∈ fp,H8 b = none) -> m' < n -> W (i + 1) m' acc8 H8 -> zav acc8 its8 -> (∃ k,o8 = { cls := .type "list",data := .seq its8.toArray k }) ->
      ∃ m,m < n /\ ∃ i acc H' its o,Inv (blk X scope N fp s2 H2 C) (pins ++ [(D,o)]) (visS sel σ) H' s8 /\ tn i s8.heap /\ (∀ b ∈ fp,H' b = none) /\ W i m acc H' /\ zav acc its /\ (∃ k,o = { cls := .type "list",data := .seq its.toArray k }) /\ H' D = none := fun {σ8 H8 s8 acc8 m' its8 o8} J8 kf nf hm w8 rv8 ho8 =>
     ⟨m',hm,i + 1,acc8,H8,its8,o8,blk_again B I2 f2 hCle J8,T.keep _ _ _ st5 kf,nf,w8,rv8,ho8,(J8.pin (D,o8) (by simp)).2.1⟩
    have pf : ∀ {σ8 : St} {H8 : Hp} {s8 : Shared},Inv (blk X scope N fp s2 H2 C) (pins ++ [(D,o)] ++ pinsAt fp s5.heap) σ8 H8 s8 -> (∀ b ∈ fp,∀ ob,s5.heap.get? b = some ob -> s8.heap.get? b = some ob) /\ (∀ b ∈ fp,H8 b = none) := fun {σ8 H8 s8} J8 => by
     refine ⟨fun b hb ob e => (J8.pin (b,ob) (List.mem_append_right _ (List.mem_append_right _ (mem_pinsAt hb e)))).1,fun b hb => ?_⟩
     obtain ⟨ob,e,_⟩ := T.obj _ _ st5 b hb
     exact (J8.pin (b,ob) (List.mem_append_right _ (List.mem_append_right _ (mem_pinsAt hb e)))).2.1
    cases b with
    | false =>
     rw [if_neg Bool.false_ne_true] at q7 ⊢
     obtain ⟨m',hm,w7⟩ := q7
     exact fin (J7.unpinned) (pf J7).1 (pf J7).2 hm w7 rv ⟨kk,ho⟩
    | true =>
     rw [if_pos rfl] at q7 ⊢
     refine thn (he _ _ _ _ _ s7 σ6 H7 _ J7 q7) fun y s8 ⟨z,H8,J8,r8,m',hm,w8⟩ => ?_
     have hD8 := J8.pin (D,o) (by simp)
     simp only at hD8
     have hlen := rv.length
     refine wpAny_list_append_plain (items := its.toArray) (hsz := by rw [List.size_toArray]; omega) ⟨kk,by rw [<- ho]; exact hD8.1⟩ fun h9 hl9 hs9 => ?_
     obtain ⟨k9,e9⟩ := hl9
     have eqa : its.toArray.push y = (its ++ [y]).toArray := by simp
     rw [eqa] at e9
     have J9 : Inv (blk X scope N fp s2 H2 C) (pins ++ pinsAt fp s5.heap) σ6 H8 s8 := J8.pins_of fun p hp => by
      rcases List.mem_append.mp hp with z | z
      ·exact J8.pin p (List.mem_append_right _ (List.mem_append_left _ (List.mem_append_left _ z)))
      ·exact J8.pin p (List.mem_append_right _ (List.mem_append_right _ z))
     have nfD : ∀ b ∈ fp,b ≠ D := fun b hb => Nat.ne_of_lt (hDe ▸ ofp b hb)
     have pD : ∀ p ∈ X.pn ++ pins,p.1 ≠ D := fun p hp => Nat.ne_of_lt (hDe ▸ Heap.lt_size (I2.pin p hp).1)
     have J10 : Inv (blk X scope N fp s2 H2 C) (pins ++ pinsAt fp s5.heap) σ6 H8 { s8 with heap := h9 } := J9.turned (t' := s8.toks) (it := D) (fun b ob hb e => (hs9.2 b hb).trans e) hD8.2.1 hDC (.inr (Nat.le_of_eq hDe))
      (fun x c hx => by
       obtain ⟨v,ob,hob,_⟩ := I2.cell x c (B.cl1 I2.ok hx)
       exact Nat.ne_of_lt (hDe ▸ Heap.lt_size hob))
      (fun p hp => by
       rcases List.mem_append.mp hp with z | z
       ·exact pD p (List.mem_append_left _ z)
       ·rcases List.mem_append.mp z with z | z
        ·exact pD p (List.mem_append_right _ z)
        ·exact nfD _ (of_pinsAt z).1)
     refine fin (pinD (o := { cls := .type "list",data := .seq (its ++ [y]).toArray k9 }) J10 (fun p hp => List.mem_append_left _ hp) e9 hD8.2.1 (fun v z => by cases z)) (fun b hb ob e => (hs9.2 b (nfD b hb)).trans ((pf J8).1 b hb ob e)) (pf J8).2 hm w8 (zav.append rv (.cons r8 .nil)) ⟨k9,rfl⟩
  ·obtain ⟨k0,e0⟩ := hacc
   exact ⟨0,[],H2,[],_,pinD I3 (fun _ z => z) e0 (I2.hok.fresh (Nat.le_of_eq hDe)) (fun v z => by cases z),T.keep _ _ _ st2 (fun b _ ob e => k2 b ob e),fun b hb => (f2 b hb).1,w0,.nil,⟨k0,rfl⟩,I2.hok.fresh (Nat.le_of_eq hDe)⟩
 refine codeAny_compStart_list loop (T.self X.A 0 _ _ _ (T.keep _ _ _ st2 (fun b _ ob e => k2 b ob e)) loop)
theorem pe_comp (hc : X.calm = true) (B : BlkOk X scope N sel) (hi : PI X target iter wi)
  (hg : ∀ fp s H C,PG (blk X scope N fp s H C) target g) (ht : ∀ fp s H C,PIfs (blk X scope N fp s H C) ifs tc) (he : ∀ fp s H C,PE (blk X scope N fp s H C) elt te)
  (hs : ∀ x,foldedSetIterable iter X.env x = pure x := by intro _; rfl) : PE X (.ListComp elt [⟨target,iter,ifs,0⟩] scope pos) (tComp sel wi g tc te) := by
 intro pins s σ H Q I h
 rw [eval_ListComp]
 refine comp_core (use := none) hc B hi hg ht he hs I h fun D C oC m H4 s4 I4 hn ⟨n1,n2,n3,n4,n5⟩ q => ?_
 have I5 : Inv X pins σ H4 s4 := I4.unpinned
 exact ⟨m,hn,fun h'' sb => ⟨.ref D,H4,I5.turned (t' := s4.toks) (it := C) (fun b o hb e => (sb.2 b hb).trans e) n5 n2 (.inr n1) n3 n4,rfl,q⟩⟩
theorem ps_setcomp {i : Nat} {y : Str} {py spos : Pos} (hc : X.calm = true) (hN : X.N.Nodup) (hy : X.N[i]? = some y) (hx : Loc X.env.scope y) (B : BlkOk X scope N sel) (hi : PI X target iter wi)
  (hg : ∀ fp s H C,PG (blk X scope N fp s H C) target g) (ht : ∀ fp s H C,PIfs (blk X scope N fp s H C) ifs tc) (he : ∀ fp s H C,PE (blk X scope N fp s H C) elt te)
  (hsw : swapsWith (.ListComp elt [⟨target,iter,ifs,0⟩] scope pos) (some (.Name y py)) spos.line X.env = pure true)
  (hs : ∀ x,foldedSetIterable iter X.env x = pure x := by intro _; rfl) (hf : X.fn y = true ∨ X.env.scope.names.lookup y = some .local := by first | exact .inl rfl | exact .inr rfl | assumption) :
  PS X (.Assign [.Name y py] (.ListComp elt [⟨target,iter,ifs,0⟩] scope pos) spos) (tAsg (tComp sel wi g tc te) (gName i)) := by
 intro pins s σ H D I h
 rw [exec_Assign_Name_used _ _ _ _ hsw]
 refine wpAny_bind (wpAny_standAt (wpAny_bind ?_))
 show wpAny _ _ (do let _ <- comprehension (.ListComp elt [⟨target,iter,ifs,0⟩] scope pos) scope X.env _ (newList []) false (eval iter X.env) (some (assign (.Name y py) X.env))) _ _ s
 refine wpAny_bind (thn (comp_core (use := some (assign (.Name y py) X.env)) (Q' := fun _ s' => SP X pins D .next s') hc B hi hg ht he hs I h fun d C oC m H4 s4 I4 hn ⟨n1,n2,n3,n4,n5⟩ q => ?_) fun _ s' hq => wpAny_pure (wpAny_pure hq))
 show wpAny _ _ (assign (.Name y py) X.env (.ref d)) _ _ _
 refine thn (pg_name (X := X) (i := i) hN hy hx hf _ s4 σ H4 (.ref d) (.ref d) _ I4 rfl q) fun _ s5 ⟨σ5,H5,I5,q5⟩ => ?_
 have hC := I5.pin (C,oC) (by simp)
 simp only at hC
 obtain ⟨o',es,ep,e,r⟩ := id hn
 have hn5 : s5.heap.Ns C m := ⟨o',es,ep,by
  have e4 := (I4.pin (C,oC) (by simp)).1
  simp only at e4
  rw [e4] at e; cases e
  exact hC.1,r⟩
 refine ⟨m,hn5,fun h'' sb => ⟨σ5,H5,(I5.unpinned).turned (t' := s5.toks) (it := C) (fun b o hb e => (sb.2 b hb).trans e) hC.2.1 n2 (.inr n1) n3 n4,q5⟩⟩
end
end L2
set_option Elab.async false
set_option linter.all false
set_option maxRecDepth 100000
set_option maxHeartbeats 4000000
namespace L3
open PySem PySem.Spec PyProof.Rows L2
structure KW where
 k : PySem.W.Frag
 w : World
 P : Program
abbrev _root_.L2.Cx.kw (X : Cx) : KW := ⟨X.K,X.w,X.prog⟩
inductive T where
 | non | bl (b : Bool) | int (i : Int) | str (x : Str) | ref (a : Addr) | tup (ts : List T) | fro (ts : List T) | ty (n : String)
def SqF (K : PySem.W.Frag) (H : Hp) (a : Addr) (xs : List V) : Prop :=
 (∃ o,H a = some (.frz o (.lst xs))) ∨
  ∃ (o : Obj) (its : Array Value) (n : Nat),K.lookup a = some o /\ o.cls = .type "list" /\ o.dict = none /\ o.data = .seq its n /\ its.size <= sizeLine /\ zav xs its.toList
theorem SqF.sq {K : PySem.W.Frag} {H : Hp} {a : Addr} {xs : List V} (h : SqF K H a xs) : SqL K H a xs := by
 rcases h with ⟨o,h⟩ | h
 ·exact .inl (.inr ⟨o,h⟩)
 ·exact .inr h
mutual
inductive Den (K : KW) (H : Hp) : V -> T -> Prop
 | non : Den K H .non .non
 | bl (b : Bool) : Den K H (.bl b) (.bl b)
 | int (i : Int) : Den K H (.int i) (.int i)
 | str (x : Str) : Den K H (.str x) (.str x)
 | ref (a : Addr) : Den K H (.ref a) (.ref a)
 | ty (n : String) : Den K H (.ty n) (.ty n)
 | tup {a : Addr} {xs : List V} {ts : List T} : SqT K.k H a xs -> Dens K H xs ts -> Den K H (.ref a) (.tup ts)
 | fro {a : Addr} {xs : List V} {ts : List T} : SqF K.k H a xs -> Dens K H xs ts -> Den K H (.ref a) (.fro ts)
inductive Dens (K : KW) (H : Hp) : List V -> List T -> Prop
 | nil : Dens K H [] []
 | cons {v : V} {t : T} {vs : List V} {ts : List T} : Den K H v t -> Dens K H vs ts -> Dens K H (v :: vs) (t :: ts)
end
def keepF : HO -> Bool
 | .lst _ => true
 | .tup _ => true
 | _ => false
structure Kp (H H' : Hp) : Prop where
 tups : ∀ a xs,H a = some (.tup xs) -> H' a = some (.tup xs)
 frzs : ∀ a o u,H a = some (.frz o u) -> keepF u = true -> H' a = some (.frz o u)
theorem Kp.refl (H : Hp) : Kp H H := ⟨fun _ _ h => h,fun _ _ _ h _ => h⟩
theorem Kp.trans {H H1 H2 : Hp} (a : Kp H H1) (b : Kp H1 H2) : Kp H H2 := ⟨fun x xs h => b.tups _ _ (a.tups _ _ h),fun x o u h m => b.frzs _ _ _ (a.frzs _ _ _ h m) m⟩
theorem Kp.new {H : Hp} {a : Addr} {o : HO} (h : H a = none) : Kp H (upd H a o) :=
 ⟨fun b xs e => by rw [zah (zao e h)]; exact e,fun b o u e _ => by rw [zah (zao e h)]; exact e⟩
theorem Kp.mut {H : Hp} {a : Addr} {o : HO} (h : Mut (H a)) : Kp H (upd H a o) := by
 refine ⟨fun b xs e => ?_,fun b o u e _ => ?_⟩
 ·rw [zah]; exact e
  rintro rfl; rw [e] at h; exact h
 ·rw [zah]; exact e
  rintro rfl; rw [e] at h; exact h
theorem Kp.thaw {H : Hp} {a : Addr} {o : HO} {ob : Obj} {u : HO} (h : H a = some (.frz ob u)) (m : keepF u = false) : Kp H (upd H a o) := by
 refine ⟨fun b xs e => ?_,fun b o u' e m' => ?_⟩
 ·rw [zah]; exact e
  rintro rfl; rw [h] at e; cases e
 ·rw [zah]; exact e
  rintro rfl; rw [h] at e; cases e; rw [m] at m'; cases m'
theorem Kp.sqT {K : PySem.W.Frag} {H H' : Hp} (k : Kp H H') {a : Addr} {xs : List V} (h : SqT K H a xs) : SqT K H' a xs := by
 rcases h with (h | ⟨o,h⟩) | h
 ·exact .inl (.inl (k.tups _ _ h))
 ·exact .inl (.inr ⟨o,k.frzs _ _ _ h rfl⟩)
 ·exact .inr h
theorem Kp.sqF {K : PySem.W.Frag} {H H' : Hp} (k : Kp H H') {a : Addr} {xs : List V} (h : SqF K H a xs) : SqF K H' a xs := by
 rcases h with ⟨o,h⟩ | h
 ·exact .inl ⟨o,k.frzs _ _ _ h rfl⟩
 ·exact .inr h
mutual
theorem Den.mono {K : KW} {H H' : Hp} (k : Kp H H') : ∀ {v : V} {t : T},Den K H v t -> Den K H' v t
 | _,_,.non => .non
 | _,_,.bl b => .bl b
 | _,_,.int b => .int b
 | _,_,.str b => .str b
 | _,_,.ref b => .ref b
 | _,_,.ty b => .ty b
 | _,_,.tup h d => .tup (k.sqT h) (Dens.mono k d)
 | _,_,.fro h d => .fro (k.sqF h) (Dens.mono k d)
theorem Dens.mono {K : KW} {H H' : Hp} (k : Kp H H') : ∀ {vs : List V} {ts : List T},Dens K H vs ts -> Dens K H' vs ts
 | _,_,.nil => .nil
 | _,_,.cons a b => .cons (Den.mono k a) (Dens.mono k b)
end
theorem Dens.length {K : KW} {H : Hp} : ∀ {vs : List V} {ts : List T},Dens K H vs ts -> vs.length = ts.length
 | _,_,.nil => rfl
 | _,_,.cons _ b => by simp [Dens.length b]
theorem Dens.get {K : KW} {H : Hp} : ∀ {vs : List V} {ts : List T} {i : Nat} {t : T},Dens K H vs ts -> ts[i]? = some t -> ∃ v,vs[i]? = some v /\ Den K H v t
 | _,_,_,_,.nil,e => by simp at e
 | _,_,0,_,.cons a _,e => by simp at e; subst e; exact ⟨_,rfl,a⟩
 | _,_,i + 1,t,.cons _ b,e => by
  obtain ⟨v,h1,h2⟩ := Dens.get (i := i) (t := t) b (by simpa using e)
  exact ⟨v,by simpa using h1,h2⟩
theorem Dens.getV {K : KW} {H : Hp} : ∀ {vs : List V} {ts : List T} {i : Nat} {v : V},Dens K H vs ts -> vs[i]? = some v -> ∃ t,ts[i]? = some t /\ Den K H v t
 | _,_,_,_,.nil,e => by simp at e
 | _,_,0,_,.cons a _,e => by simp at e; subst e; exact ⟨_,rfl,a⟩
 | _,_,i + 1,t,.cons _ b,e => by
  obtain ⟨v,h1,h2⟩ := Dens.getV (i := i) (v := t) b (by simpa using e)
  exact ⟨v,by simpa using h1,h2⟩
theorem Dens.set {K : KW} {H : Hp} {v : V} {t : T} (d : Den K H v t) : ∀ {vs : List V} {ts : List T} (i : Nat),Dens K H vs ts -> Dens K H (vs.set i v) (ts.set i t)
 | _,_,_,.nil => .nil
 | _,_,0,.cons _ b => .cons d b
 | _,_,i + 1,.cons a b => .cons a (Dens.set d i b)
theorem Dens.append {K : KW} {H : Hp} : ∀ {vs us : List V} {ts ws : List T},Dens K H vs ts -> Dens K H us ws -> Dens K H (vs ++ us) (ts ++ ws)
 | _,_,_,_,.nil,s => s
 | _,_,_,_,.cons r t,s => .cons r (Dens.append t s)
theorem Dens.take {K : KW} {H : Hp} : ∀ {vs : List V} {ts : List T} (n : Nat),Dens K H vs ts -> Dens K H (vs.take n) (ts.take n)
 | _,_,0,_ => .nil
 | _,_,_ + 1,.nil => .nil
 | _,_,n + 1,.cons r t => .cons r (Dens.take n t)
theorem Dens.drop {K : KW} {H : Hp} : ∀ {vs : List V} {ts : List T} (n : Nat),Dens K H vs ts -> Dens K H (vs.drop n) (ts.drop n)
 | _,_,0,r => r
 | _,_,_ + 1,.nil => .nil
 | _,_,n + 1,.cons _ t => Dens.drop n t
theorem Dens.ints {K : KW} {H : Hp} : ∀ (ns : List Int),Dens K H (ns.map V.int) (ns.map T.int)
 | [] => .nil
 | n :: r => .cons (.int n) (Dens.ints r)
def a0T : A0 -> T
 | .non => .non
 | .int i => .int i
 | .str x => .str x
def a1T : A1 -> T
 | .at a => a0T a
 | .tup l => .tup (l.map a0T)
def lkT (k : LK) : T := .tup (k.map a1T)
inductive GO where
 | lst (ts : List T)
 | dK (kvs : List (Key × T))
 | ins (C : Addr) (fs : List (Str × T))
 | dT (kvs : List (LK × T))
 | dF (ob : Obj) (kvs : List (Key × T))
 | dG (ob : Obj) (kvs : List (LK × T))
def GO.mu : GO -> Bool
 | .dF _ _ => false
 | .dG _ _ => false
 | _ => true
abbrev Gp := Addr -> Option GO
def updG (G : Gp) (a : Addr) (o : GO) : Gp := fun b => if b = a then some o else G b
theorem zaa {G : Gp} {a : Addr} {o : GO} : updG G a o a = some o := by unfold updG; rw [if_pos rfl]
theorem zac {G : Gp} {a b : Addr} {o : GO} (h : b ≠ a) : updG G a o b = G b := by unfold updG; rw [if_neg h]
theorem zbu {G : Gp} {a : Addr} {o u : GO} : updG (updG G a o) a u = updG G a u := by
 funext b; unfold updG; split <;> rfl
theorem neG {G : Gp} {a b : Addr} {o : GO} (h : G a = some o) (h' : G b = none) : a ≠ b := by
 intro e; subst e; rw [h] at h'; cases h'
theorem neG2 {G : Gp} {a b : Addr} {o u : GO} (h : G a = some o) (h' : G b = some u) (d : o ≠ u) : a ≠ b := by
 intro e; subst e; rw [h] at h'; exact d (Option.some.inj h')
abbrev Flds (K : KW) (H : Hp) : List (Str × V) -> List (Str × T) -> Prop := Paired fun p q => p.1 = q.1 /\ Den K H p.2 q.2
abbrev Ents (K : KW) (H : Hp) : List (Key × V) -> List (Key × T) -> Prop := Paired fun p q => p.1 = q.1 /\ Den K H p.2 q.2
abbrev EntT (K : KW) (H : Hp) : List (LK × T) -> List (LK × Addr × Value) -> Prop := Paired fun p x => p.1 = x.1 /\ Den K H (.ref x.2.1) (lkT x.1) /\ ∃ v,zaG v x.2.2 /\ Den K H v p.2
def ObjDen (K : KW) (H : Hp) (a : Addr) : GO -> Prop
 | .dT kvs => ∃ xs,H a = some (.ext (rawD K.P K.w a xs)) /\ EntT K H kvs xs
 | .lst ts => ∃ xs,H a = some (.lst xs) /\ Dens K H xs ts
 | .dK kvs => ∃ ks,H a = some (.dK ks) /\ Ents K H ks kvs
 | .ins C fs => ∃ dx xs,H a = some (.ins C dx xs) /\ Flds K H xs fs
 | .dF ob kvs => ∃ ks,H a = some (.frz ob (.dK ks)) /\ Ents K H ks kvs
 | .dG ob kvs => ∃ xs,H a = some (.frz ob (.ext (rawD K.P K.w a xs))) /\ EntT K H kvs xs
def HR (K : KW) (H : Hp) (G : Gp) : Prop := ∀ a o,G a = some o -> ObjDen K H a o
section
variable {K : KW} {H H' : Hp} {G G' : Gp} {a : Addr} {o : GO}
theorem Flds.mono (k : Kp H H') {xs : List (Str × V)} {fs : List (Str × T)} (h : Flds K H xs fs) : Flds K H' xs fs := Paired.mapP h fun _ _ ⟨e,d⟩ => ⟨e,d.mono k⟩
theorem Ents.mono (k : Kp H H') {xs : List (Key × V)} {fs : List (Key × T)} (h : Ents K H xs fs) : Ents K H' xs fs := Paired.mapP h fun _ _ ⟨e,d⟩ => ⟨e,d.mono k⟩
theorem EntT.mono (k : Kp H H') {xs : List (LK × T)} {fs : List (LK × Addr × Value)} (h : EntT K H xs fs) : EntT K H' xs fs := Paired.mapP h fun _ _ ⟨e,d,v,r,d'⟩ => ⟨e,d.mono k,v,r,d'.mono k⟩
theorem HR.free (r : HR K H G) (h : H a = none) : G a = none := by
 cases e : G a with
 | none => rfl
 | some o =>
  have x := r a o e
  cases o with
  | lst ts => obtain ⟨xs,q,_⟩ := x; rw [h] at q; cases q
  | dK ts => obtain ⟨xs,q,_⟩ := x; rw [h] at q; cases q
  | ins C fs => obtain ⟨dx,xs,q,_⟩ := x; rw [h] at q; cases q
  | dT ts => obtain ⟨xs,q,_⟩ := x; rw [h] at q; cases q
  | dF ob ts => obtain ⟨xs,q,_⟩ := x; rw [h] at q; cases q
  | dG ob ts => obtain ⟨xs,q,_⟩ := x; rw [h] at q; cases q
theorem ObjDen.at (x : ObjDen K H a o) (k : Kp H H') (e : H' a = H a) : ObjDen K H' a o := by
 cases o with
 | lst ts => obtain ⟨xs,q,d⟩ := x; exact ⟨xs,e.trans q,d.mono k⟩
 | dK ts => obtain ⟨xs,q,d⟩ := x; exact ⟨xs,e.trans q,Ents.mono k d⟩
 | ins C fs => obtain ⟨dx,xs,q,d⟩ := x; exact ⟨dx,xs,e.trans q,Flds.mono k d⟩
 | dT ts => obtain ⟨xs,q,d⟩ := x; exact ⟨xs,e.trans q,EntT.mono k d⟩
 | dF ob ts => obtain ⟨xs,q,d⟩ := x; exact ⟨xs,e.trans q,Ents.mono k d⟩
 | dG ob ts => obtain ⟨xs,q,d⟩ := x; exact ⟨xs,e.trans q,EntT.mono k d⟩
theorem HR.lay (r : HR K H G) {b : Addr} {u : HO} (h : H b = none) : HR K (upd H b u) G := fun a o e => by
 refine (r a o e).at (Kp.new h) (zah ?_)
 rintro rfl
 have := r.free h
 rw [e] at this; cases this
theorem HR.new (r : HR K H G) {b : Addr} {u : HO} {o : GO} (h : H b = none) (n : ObjDen K (upd H b u) b o) : HR K (upd H b u) (updG G b o) := fun a p e => by
 by_cases z : a = b
 ·subst z; rw [zaa] at e; cases e; exact n
 ·rw [zac z] at e; exact r.lay h a p e
theorem ObjDen.mutb (x : ObjDen K H a o) (m : o.mu = true) : Mut (H a) := by
 cases o with
 | lst ts => obtain ⟨xs,q,d⟩ := x; rw [q]; trivial
 | dK ts => obtain ⟨xs,q,d⟩ := x; rw [q]; trivial
 | ins C fs => obtain ⟨dx,xs,q,d⟩ := x; rw [q]; trivial
 | dT ts => obtain ⟨xs,q,d⟩ := x; rw [q]; trivial
 | dF ob ts => cases m
 | dG ob ts => cases m
theorem HR.put (r : HR K H G) {u : HO} {o o' : GO} (h : G a = some o) (n : ObjDen K (upd H a u) a o') (m : o.mu = true := by rfl) : HR K (upd H a u) (updG G a o') := fun b p e => by
 by_cases z : b = a
 ·subst z; rw [zaa] at e; cases e; exact n
 ·rw [zac z] at e
  exact (r b p e).at (Kp.mut ((r a o h).mutb m)) (zah z)
end
abbrev St3 := List (Option T)
abbrev VK3 := T -> Gp -> Prop
abbrev TE3 := St3 -> Gp -> VK3 -> Prop
abbrev TT3 := St3 -> Gp -> (Bool -> Gp -> Prop) -> Prop
abbrev TA3 := St3 -> Gp -> (List T -> Gp -> Prop) -> Prop
structure Ends3 where
 nx : St3 -> Gp -> Prop
 rt : VK3
 bk : St3 -> Gp -> Prop := fun _ _ => False
 ct : St3 -> Gp -> Prop := fun _ _ => False
abbrev TS3 := Ends3 -> St3 -> Gp -> Prop
inductive Sts (K : KW) (H : Hp) : L2.St -> St3 -> Prop
 | nil : Sts K H [] []
 | no {o : Option V} {σ : L2.St} {τ : St3} : Sts K H σ τ -> Sts K H (o :: σ) (none :: τ)
 | yes {v : V} {t : T} {σ : L2.St} {τ : St3} : Den K H v t -> Sts K H σ τ -> Sts K H (some v :: σ) (some t :: τ)
section
variable {K : KW} {H H' : Hp}
theorem Sts.mono (k : Kp H H') : ∀ {σ : L2.St} {τ : St3},Sts K H σ τ -> Sts K H' σ τ
 | _,_,.nil => .nil
 | _,_,.no r => .no (Sts.mono k r)
 | _,_,.yes d r => .yes (d.mono k) (Sts.mono k r)
theorem Sts.get : ∀ {σ : L2.St} {τ : St3} {i : Nat} {t : T},Sts K H σ τ -> τ[i]? = some (some t) -> ∃ v,σ[i]? = some (some v) /\ Den K H v t
 | _,_,_,_,.nil,e => by simp at e
 | _,_,0,_,.no _,e => by simp at e
 | _,_,0,_,.yes d _,e => by simp at e; subst e; exact ⟨_,rfl,d⟩
 | _,_,i + 1,t,.no r,e => by
  obtain ⟨v,h1,h2⟩ := Sts.get (i := i) (t := t) r (by simpa using e)
  exact ⟨v,by simpa using h1,h2⟩
 | _,_,i + 1,t,.yes _ r,e => by
  obtain ⟨v,h1,h2⟩ := Sts.get (i := i) (t := t) r (by simpa using e)
  exact ⟨v,by simpa using h1,h2⟩
theorem Sts.set {v : V} {t : T} (d : Den K H v t) : ∀ {σ : L2.St} {τ : St3} (i : Nat),Sts K H σ τ -> Sts K H (σ.set i (some v)) (τ.set i (some t))
 | _,_,_,.nil => .nil
 | _,_,0,.no r => .yes d r
 | _,_,0,.yes _ r => .yes d r
 | _,_,i + 1,.no r => .no (Sts.set d i r)
 | _,_,i + 1,.yes e r => .yes e (Sts.set d i r)
theorem Sts.reps : ∀ n : Nat,Sts K H (List.replicate n none) (List.replicate n none)
 | 0 => .nil
 | n + 1 => .no (Sts.reps n)
theorem Sts.start' (n : Nat) : ∀ {vs : List V} {ts : List T},Dens K H vs ts -> Sts K H (vs.map some ++ List.replicate n none) (ts.map some ++ List.replicate n none)
 | _,_,.nil => Sts.reps n
 | _,_,.cons a b => .yes a (Sts.start' n b)
theorem Sts.start {vs : List V} {ts : List T} (N : List Str) (d : Dens K H vs ts) : Sts K H (L2.start N vs) (ts.map some ++ List.replicate (N.length - ts.length) none) := by
 unfold L2.start
 rw [d.length]
 exact Sts.start' _ d
end
def start3 (n : Nat) (ts : List T) : St3 := ts.map some ++ List.replicate (n - ts.length) none
section
variable (K : KW)
def Imp (H : Hp) (Q3 : VK3) (Q : VK) : Prop := ∀ t G' v H',Q3 t G' -> Kp H H' -> Den K H' v t -> HR K H' G' -> Q v H'
def lE (t : TE3) : TE := fun σ H Q => ∃ τ G Q3,Sts K H σ τ /\ HR K H G /\ t τ G Q3 /\ Imp K H Q3 Q
def ImpB (H : Hp) (Q3 : Bool -> Gp -> Prop) (Q : Bool -> Hp -> Prop) : Prop := ∀ b G' H',Q3 b G' -> Kp H H' -> HR K H' G' -> Q b H'
def lT (t : TT3) : TT := fun σ H Q => ∃ τ G Q3,Sts K H σ τ /\ HR K H G /\ t τ G Q3 /\ ImpB K H Q3 Q
def ImpA (H : Hp) (Q3 : List T -> Gp -> Prop) (Q : List V -> Hp -> Prop) : Prop := ∀ ts G' vs H',Q3 ts G' -> Kp H H' -> Dens K H' vs ts -> HR K H' G' -> Q vs H'
def lA (t : TA3) : TA := fun σ H Q => ∃ τ G Q3,Sts K H σ τ /\ HR K H G /\ t τ G Q3 /\ ImpA K H Q3 Q
def ImpS (H : Hp) (Q3 : St3 -> Gp -> Prop) (Q : L2.St -> Hp -> Prop) : Prop := ∀ τ G' σ H',Q3 τ G' -> Kp H H' -> Sts K H' σ τ -> HR K H' G' -> Q σ H'
structure ImpD (H : Hp) (D3 : Ends3) (D : Ends) : Prop where
 nx : ImpS K H D3.nx D.nx
 rt : Imp K H D3.rt D.rt
 bk : ImpS K H D3.bk D.bk
 ct : ImpS K H D3.ct D.ct
def lS (t : TS3) : TS := fun D σ H => ∃ τ G D3,Sts K H σ τ /\ HR K H G /\ t D3 τ G /\ ImpD K H D3 D
end
theorem Imp.mono {K : KW} {H H' : Hp} {Q3 : VK3} {Q : VK} (i : Imp K H Q3 Q) (k : Kp H H') : Imp K H' Q3 Q := fun t G' v H'' q k' d r => i t G' v H'' q (k.trans k') d r
theorem ImpB.mono {K : KW} {H H' : Hp} {Q3 : Bool -> Gp -> Prop} {Q : Bool -> Hp -> Prop} (i : ImpB K H Q3 Q) (k : Kp H H') : ImpB K H' Q3 Q := fun t G' H'' q k' r => i t G' H'' q (k.trans k') r
theorem ImpS.mono {K : KW} {H H' : Hp} {Q3 : St3 -> Gp -> Prop} {Q : L2.St -> Hp -> Prop} (i : ImpS K H Q3 Q) (k : Kp H H') : ImpS K H' Q3 Q := fun t G' v H'' q k' d r => i t G' v H'' q (k.trans k') d r
theorem ImpD.mono {K : KW} {H H' : Hp} {D3 : Ends3} {D : Ends} (i : ImpD K H D3 D) (k : Kp H H') : ImpD K H' D3 D := ⟨i.nx.mono k,i.rt.mono k,i.bk.mono k,i.ct.mono k⟩
abbrev QE (X : Cx) (e : Expr) (t : TE3) : Prop := PE X e (lE X.kw t)
abbrev QT (X : Cx) (e : Expr) (t : TT3) : Prop := PT X e (lT X.kw t)
abbrev QW (X : Cx) (e : Expr) (t : TT3) : Prop := PW X e (lT X.kw t)
abbrev QA (X : Cx) (es : List Expr) (t : TA3) : Prop := PA X es (lA X.kw t)
abbrev QS (X : Cx) (st : Stmt) (t : TS3) : Prop := PS X st (lS X.kw t)
abbrev QSs (X : Cx) (st : List Stmt) (t : TS3) : Prop := PSs X st (lS X.kw t)
section
variable {X : Cx} {e a b c : Expr} {pos : Pos}
theorem _root_.L2.PE.imp {t t' : TE} (h : PE X e t) (i : ∀ σ H Q,t' σ H Q -> t σ H Q) : PE X e t' := fun pins s σ H Q I q => h pins s σ H Q I (i _ _ _ q)
theorem _root_.L2.PT.imp {t t' : TT} (h : PT X e t) (i : ∀ σ H Q,t' σ H Q -> t σ H Q) : PT X e t' := fun pins s σ H Q I q => h pins s σ H Q I (i _ _ _ q)
theorem _root_.L2.PW.imp {t t' : TT} (h : PW X e t) (i : ∀ σ H Q,t' σ H Q -> t σ H Q) : PW X e t' := fun wh pins s σ H Q I q => h wh pins s σ H Q I (i _ _ _ q)
theorem _root_.L2.PA.imp {es : List Expr} {t t' : TA} (h : PA X es t) (i : ∀ σ H Q,t' σ H Q -> t σ H Q) : PA X es t' := fun p pins s σ H Q I q => h p pins s σ H Q I (i _ _ _ q)
theorem _root_.L2.PS.imp {st : Stmt} {t t' : TS} (h : PS X st t) (i : ∀ D σ H,t' D σ H -> t D σ H) : PS X st t' := fun pins s σ H D I q => h pins s σ H D I (i _ _ _ q)
theorem _root_.L2.PSs.imp {st : List Stmt} {t t' : TS} (h : PSs X st t) (i : ∀ D σ H,t' D σ H -> t D σ H) : PSs X st t' := fun pins s σ H D I q => h pins s σ H D I (i _ _ _ q)
def wVar (i : Nat) : TE3 := fun τ G Q => match τ[i]? with
 | some (some t) => Q t G
 | _ => False
def wC (t : T) : TE3 := fun _ G Q => Q t G
theorem qv (i : Nat) {x : Str} {pos : Pos} (hN : X.N[i]? = some x := by rfl) (hv : Vis X.env.scope x := by first | exact Or.inl rfl | exact Or.inr (Or.inl rfl) | exact Or.inr (Or.inr rfl)) (hd : (x == ("__debug__" : Str)) = false := by decide)
  (hcd : (x == ("__classdict__" : Str)) = false := by decide) : QE X (.Name x pos) (wVar i) := (pe_var hN hv hd hcd).imp fun σ H Q ⟨τ,G,Q3,s,r,h,i'⟩ => by
 unfold wVar at h
 split at h
 ·rename_i t e
  obtain ⟨v,e1,d⟩ := s.get e
  exact ⟨v,e1,i' t G v H h (Kp.refl _) d r⟩
 ·exact h.elim
theorem qc {t : T} {v : V} (h : PE X e (tC v)) (d : ∀ K H,Den K H v t) : QE X e (wC t) := h.imp fun σ H Q ⟨τ,G,Q3,s,r,h,i'⟩ => i' t G v H h (Kp.refl _) (d _ _) r
theorem zaD {i j} : QE X (.Constant (.int i) j pos) (wC (.int i)) := qc pe_int fun _ _ => .int _
theorem qbl {i j} : QE X (.Constant (.bool i) j pos) (wC (.bl i)) := qc pe_bl fun _ _ => .bl _
theorem qnon {j} : QE X (.Constant .none j pos) (wC .non) := qc pe_non fun _ _ => .non
theorem qstr {i j} : QE X (.Constant (.str i) j pos) (wC (.str i)) := qc pe_str fun _ _ => .str _
theorem qgstr {x z : Str} {t : Tok} (hm : X.mg x = some (.str z t)) (hg : Gl X x := by rfl) (hd : (x == ("__debug__" : Str)) = false := by decide) : QE X (.Name x pos) (wC (.str z)) := qc (pe_glob (v := .str z) hg hm ⟨_,rfl⟩ hd) fun _ _ => .str _
abbrev R3 := T -> T -> Gp -> VK3 -> Prop
def LR (K : KW) (r3 : R3) (r : R2) : Prop := ∀ H G x y x3 y3 Q Q3,Den K H x x3 -> Den K H y y3 -> HR K H G -> r3 x3 y3 G Q3 -> Imp K H Q3 Q -> r x y H Q
def wOp (r : R3) (ta tb : TE3) : TE3 := fun τ G Q => ta τ G fun x G1 => tb τ G1 fun y G2 => r x y G2 Q
theorem lOp {K : KW} {r3 : R3} {r : R2} (l : LR K r3 r) {ta tb : TE3} {σ : L2.St} {H : Hp} {Q : VK} (h : lE K (wOp r3 ta tb) σ H Q) : tOp r (lE K ta) (lE K tb) σ H Q := by
 obtain ⟨τ,G,Q3,s,hr,h,i⟩ := h
 refine ⟨τ,G,_,s,hr,h,fun x G1 v H1 h1 k1 d1 r1 => ?_⟩
 refine ⟨τ,G1,_,s.mono k1,r1,h1,fun y G2 u H2 h2 k2 d2 r2 => ?_⟩
 exact l H2 G2 v u x y Q Q3 (d1.mono k2) d2 r2 h2 (i.mono (k1.trans k2))
theorem qop {op : Operator} {r : R2} {r3 : R3} {ta tb : TE3} (ho : OpR X (binaryOp op) r) (l : LR X.kw r3 r) (ha : QE X a ta) (hb : QE X b tb) : QE X (.BinOp a op b pos) (wOp r3 ta tb) :=
 (pe_op ho ha hb).imp fun σ H Q h => lOp l h
theorem qcmp {op : CmpOp} {r : R2} {r3 : R3} {ta tb : TE3} (ho : OpR X (compareOp op) r) (l : LR X.kw r3 r) (ha : QE X a ta) (hb : QE X b tb) (hm : behindInMarks op b = false := by first | exact nomark _ | with_unfolding_all rfl) : QE X (.Compare a [op] [b] pos) (wOp r3 ta tb) :=
 (pe_cmpR ho ha hb hm).imp fun σ H Q h => lOp l h
def zcf (t : TE3) : TT3 := fun τ G Q => t τ G fun x G1 => match x with
 | .bl b => Q b G1
 | _ => False
theorem lTest {K : KW} {t : TE} {t3 : TE3} (l : ∀ σ H Q,lE K t3 σ H Q -> t σ H Q) {σ : L2.St} {H : Hp} {Q : Bool -> Hp -> Prop} (h : lT K (zcf t3) σ H Q) : tTest t σ H Q := by
 obtain ⟨τ,G,Q3,s,hr,h,i⟩ := h
 refine l σ H _ ⟨τ,G,_,s,hr,h,fun x G1 v H1 h1 k1 d1 r1 => ?_⟩
 cases d1 with
 | bl b => exact ⟨b,rfl,i b G1 H1 h1 k1 r1⟩
 | _ => exact False.elim h1
theorem qtcmp {op : CmpOp} {r : R2} {r3 : R3} {ta tb : TE3} (ho : OpR X (compareOp op) r) (l : LR X.kw r3 r) (ha : QE X a ta) (hb : QE X b tb) (hm : behindInMarks op b = false := by first | exact nomark _ | with_unfolding_all rfl) : QT X (.Compare a [op] [b] pos) (zcf (wOp r3 ta tb)) :=
 (pt_cmpR ho ha hb hm).imp fun σ H Q h => lTest (fun _ _ _ q => lOp l q) h
def iI (C : Int -> Int -> Prop) (g : Int -> Int -> T) : R3 := fun x y G Q => match x,y with
 | .int i,.int j => C i j /\ Q (g i j) G
 | _,_ => False
def iI0 (g : Int -> Int -> T) : R3 := fun x y G Q => match x,y with
 | .int i,.int j => Q (g i j) G
 | _,_ => False
theorem lI {K : KW} {C : Int -> Int -> Prop} {g : Int -> Int -> V} {g3 : Int -> Int -> T} (hg : ∀ i j H,Den K H (g i j) (g3 i j)) : LR K (iI C g3) (rI C g) := by
 intro H G x y x3 y3 Q Q3 dx dy r h i
 cases dx <;> cases dy <;> first
  | exact False.elim h
  | exact ⟨_,_,rfl,rfl,h.1,i _ G _ H h.2 (Kp.refl _) (hg _ _ _) r⟩
theorem lI0 {K : KW} {g : Int -> Int -> V} {g3 : Int -> Int -> T} (hg : ∀ i j H,Den K H (g i j) (g3 i j)) : LR K (iI0 g3) (rI0 g) := by
 intro H G x y x3 y3 Q Q3 dx dy r h i
 cases dx <;> cases dy <;> first
  | exact False.elim h
  | exact ⟨_,_,rfl,rfl,i _ G _ H h (Kp.refl _) (hg _ _ _) r⟩
section
variable {ta tb : TE3}
theorem qadd (ha : QE X a ta) (hb : QE X b tb) : QE X (.BinOp a .Add b pos) (wOp (iI0 fun i j => .int (i + j)) ta tb) := qop op_add (lI0 fun _ _ _ => .int _) ha hb
theorem qsub (ha : QE X a ta) (hb : QE X b tb) : QE X (.BinOp a .Sub b pos) (wOp (iI0 fun i j => .int (i - j)) ta tb) := qop op_sub (lI0 fun _ _ _ => .int _) ha hb
theorem qmul (ha : QE X a ta) (hb : QE X b tb) : QE X (.BinOp a .Mult b pos) (wOp (iI CMul fun i j => .int (i * j)) ta tb) := qop op_mul (lI fun _ _ _ => .int _) ha hb
theorem qmod (ha : QE X a ta) (hb : QE X b tb) : QE X (.BinOp a .Mod b pos) (wOp (iI (fun _ j => 0 < j) fun i j => .int (i % j)) ta tb) := qop op_mod (lI fun _ _ _ => .int _) ha hb
theorem qfdiv (ha : QE X a ta) (hb : QE X b tb) : QE X (.BinOp a .FloorDiv b pos) (wOp (iI CDiv fun i j => .int (i / j)) ta tb) := qop op_fdiv (lI fun _ _ _ => .int _) ha hb
theorem qpow (ha : QE X a ta) (hb : QE X b tb) : QE X (.BinOp a .Pow b pos) (wOp (iI CPow fun i j => .int (i ^ j.toNat)) ta tb) := qop op_pow (lI fun _ _ _ => .int _) ha hb
theorem qtlt (ha : QE X a ta) (hb : QE X b tb) : QT X (.Compare a [.Lt] [b] pos) (zcf (wOp (iI0 fun i j => .bl (decide (i < j))) ta tb)) := qtcmp op_lt (lI0 fun _ _ _ => .bl _) ha hb
theorem qtgt (ha : QE X a ta) (hb : QE X b tb) : QT X (.Compare a [.Gt] [b] pos) (zcf (wOp (iI0 fun i j => .bl (decide (j < i))) ta tb)) := qtcmp op_gt (lI0 fun _ _ _ => .bl _) ha hb
theorem qtge (ha : QE X a ta) (hb : QE X b tb) : QT X (.Compare a [.GtE] [b] pos) (zcf (wOp (iI0 fun i j => .bl (decide (j <= i))) ta tb)) := qtcmp op_ge (lI0 fun _ _ _ => .bl _) ha hb
end
def isN : T -> Bool
 | .non => true
 | _ => false
theorem isN_den {K : KW} {H : Hp} {v : V} {t : T} (d : Den K H v t) : decide (v = .non) = isN t := by
 cases d <;> simp [isN]
def wIsN : R3 := fun x y G Q => match y with
 | .non => Q (.bl (isN x)) G
 | _ => False
def wNotN : R3 := fun x y G Q => match y with
 | .non => Q (.bl (!isN x)) G
 | _ => False
theorem qtnotN {ta tb : TE3} (ha : QE X a ta) (hb : QE X b tb) : QT X (.Compare a [.IsNot] [b] pos) (zcf (wOp wNotN ta tb)) := qtcmp op_notN (fun H G x y x3 y3 Q Q3 dx dy r h i => by
 cases dy <;> first
  | exact False.elim h
  | exact ⟨rfl,by rw [isN_den dx]; exact i _ G _ H h (Kp.refl _) (.bl _) r⟩) ha hb
def wAnd (t u : TT3) : TT3 := fun τ G Q => t τ G fun c G1 => if c = true then u τ G1 Q else Q false G1
def wOr (t u : TT3) : TT3 := fun τ G Q => t τ G fun c G1 => if c = true then Q true G1 else u τ G1 Q
def wNot (t : TT3) : TT3 := fun τ G Q => t τ G fun c G1 => Q (!c) G1
variable {rest : List Expr} {tA tB : TT3}
theorem qw1a (ha : QT X a tA) : QW X (.BoolOp .And [a] pos) tA := pw_and1 ha
theorem qw1o (ha : QT X a tA) : QW X (.BoolOp .Or [a] pos) tA := pw_or1 ha
theorem qwand (ha : QT X a tA) (hb : QW X (.BoolOp .And (b :: rest) pos) tB) : QW X (.BoolOp .And (a :: b :: rest) pos) (wAnd tA tB) := (pw_and ha hb).imp fun σ H Q ⟨τ,G,Q3,s,r,h,i⟩ => by
 refine ⟨τ,G,_,s,r,h,fun c G1 H1 h1 k1 r1 => ?_⟩
 cases c with
 | true => exact ⟨τ,G1,Q3,s.mono k1,r1,h1,i.mono k1⟩
 | false => exact i false G1 H1 h1 k1 r1
theorem qwor (ha : QT X a tA) (hb : QW X (.BoolOp .Or (b :: rest) pos) tB) : QW X (.BoolOp .Or (a :: b :: rest) pos) (wOr tA tB) := (pw_or ha hb).imp fun σ H Q ⟨τ,G,Q3,s,r,h,i⟩ => by
 refine ⟨τ,G,_,s,r,h,fun c G1 H1 h1 k1 r1 => ?_⟩
 cases c with
 | true => exact i true G1 H1 h1 k1 r1
 | false => exact ⟨τ,G1,Q3,s.mono k1,r1,h1,i.mono k1⟩
theorem qtnot (ha : QT X a tA) : QT X (.UnaryOp .Not a pos) (wNot tA) := (pt_not ha).imp fun σ H Q ⟨τ,G,Q3,s,r,h,i⟩ =>
 ⟨τ,G,_,s,r,h,fun c G1 H1 h1 k1 r1 => i (!c) G1 H1 h1 k1 r1⟩
def wAndV (ta tb : TE3) : TE3 := fun τ G Q => ta τ G fun x G1 => match x with
 | .bl c => if c = true then tb τ G1 Q else Q (.bl false) G1
 | _ => False
def wOrV (ta tb : TE3) : TE3 := fun τ G Q => ta τ G fun x G1 => match x with
 | .bl c => if c = true then Q (.bl true) G1 else tb τ G1 Q
 | _ => False
def wNotV (ta : TE3) : TE3 := fun τ G Q => ta τ G fun x G1 => match x with
 | .bl c => Q (.bl (!c)) G1
 | _ => False
variable {ta tb : TE3}
variable {st : Stmt} {rst : List Stmt} {t u : TS3}
def wNext : TS3 := fun D τ G => D.nx τ G
def wSeq (t u : TS3) : TS3 := fun D τ G => t { D with nx := u D } τ G
theorem zaw : QSs X [] wNext := pss_nil.imp fun D σ H ⟨τ,G,D3,s,r,h,i⟩ => i.nx τ G σ H h (Kp.refl _) s r
theorem qss (h1 : QS X st t) (h2 : QSs X rst u) : QSs X (st :: rst) (wSeq t u) := (pss_cons h1 h2).imp fun D σ H ⟨τ,G,D3,s,r,h,i⟩ =>
 ⟨τ,G,_,s,r,h,⟨fun τ' G' σ' H' q k s' r' => ⟨τ',G',D3,s',r',q,i.mono k⟩,i.rt,i.bk,i.ct⟩⟩
theorem zaL (h1 : QS X st t) : QSs X [st] t := pss_one h1
def wDrop (te : TE3) : TS3 := fun D τ G => te τ G fun _ G1 => D.nx τ G1
theorem qexpr (he : QE X e ta) (hs : swapsWith e none pos.line X.env = pure false := by rfl) : QS X (.Expr e pos) (wDrop ta) := (ps_expr he hs).imp fun D σ H ⟨τ,G,D3,s,r,h,i⟩ =>
 ⟨τ,G,_,s,r,h,fun x G1 v H1 h1 k1 d1 r1 => i.nx τ G1 σ H1 h1 k1 (s.mono k1) r1⟩
def wRet (te : TE3) : TS3 := fun D τ G => te τ G D.rt
theorem zbZ (he : QE X e ta) : QS X (.Return (some e) pos) (wRet ta) := (ps_ret he).imp fun D σ H ⟨τ,G,D3,s,r,h,i⟩ => ⟨τ,G,_,s,r,h,i.rt⟩
def wRetN : TS3 := fun D _ G => D.rt .non G
theorem qretN : QS X (.Return none pos) wRetN := ps_retN.imp fun D σ H ⟨τ,G,D3,s,r,h,i⟩ => i.rt .non G .non H h (Kp.refl _) .non r
def wIfS (c : TT3) (t u : TS3) : TS3 := fun D τ G => c τ G fun b G1 => if b = true then t D τ G1 else u D τ G1
theorem qifs {A B : List Stmt} (hc : QT X c tA) (ha : QSs X A t) (hb : QSs X B u) : QS X (.If c A B pos) (wIfS tA t u) := (ps_if hc ha hb).imp fun D σ H ⟨τ,G,D3,s,r,h,i⟩ => by
 refine ⟨τ,G,_,s,r,h,fun c G1 H1 h1 k1 r1 => ?_⟩
 cases c with
 | true => exact ⟨τ,G1,D3,s.mono k1,r1,h1,i.mono k1⟩
 | false => exact ⟨τ,G1,D3,s.mono k1,r1,h1,i.mono k1⟩
def wNever : TS3 := fun _ _ _ => False
theorem qnever : QS X st wNever := ps_never.imp fun D σ H ⟨τ,G,D3,s,r,h,i⟩ => h
abbrev TG3 := T -> St3 -> Gp -> (St3 -> Gp -> Prop) -> Prop
def lG (K : KW) (g : TG3) : TG := fun v σ H Q => ∃ t τ G Q3,Den K H v t /\ Sts K H σ τ /\ HR K H G /\ g t τ G Q3 /\ ImpS K H Q3 Q
abbrev QG (X : Cx) (tg : Expr) (g : TG3) : Prop := PG X tg (lG X.kw g)
def hName (i : Nat) : TG3 := fun t τ G Q => Q (τ.set i (some t)) G
theorem _root_.L2.PG.imp {tg : Expr} {g g' : TG} (h : PG X tg g) (i : ∀ v σ H Q,g' v σ H Q -> g v σ H Q) : PG X tg g' := fun pins s σ H v u Q I r q => h pins s σ H v u Q I r (i _ _ _ _ q)
theorem zbz (i : Nat) {x : Str} (hN : X.N.Nodup) (hi : X.N[i]? = some x := by rfl) (hx : Loc X.env.scope x := by first | exact Or.inl rfl | exact Or.inr rfl) (hf : X.fn x = true ∨ X.env.scope.names.lookup x = some .local := by first | exact .inl rfl | exact .inr rfl | assumption) : QG X (.Name x pos) (hName i) :=
 (pg_name hN hi hx hf).imp fun v σ H Q ⟨t,τ,G,Q3,d,s,r,h,j⟩ => j _ G _ H h (Kp.refl _) (s.set d i) r
def wSet (te : TE3) (i : Nat) : TS3 := fun D τ G => te τ G fun x G1 => D.nx (τ.set i (some x)) G1
theorem qset (i : Nat) {x : Str} {pos' : Pos} (hN : X.N.Nodup) (he : QE X e ta) (hi : X.N[i]? = some x := by rfl) (hx : Loc X.env.scope x := by first | exact Or.inl rfl | exact Or.inr rfl) (hs : swapsWith e (some (.Name x pos')) pos.line X.env = pure false := by rfl)
  (hf : X.fn x = true ∨ X.env.scope.names.lookup x = some .local := by first | exact .inl rfl | exact .inr rfl | assumption) : QS X (.Assign [.Name x pos'] e pos) (wSet ta i) :=
 (ps_set hN hi hx he hs hf).imp fun D σ H ⟨τ,G,D3,s,r,h,j⟩ => ⟨τ,G,_,s,r,h,fun x G1 v H1 h1 k1 d1 r1 => j.nx _ G1 _ H1 h1 k1 ((s.mono k1).set d1 i) r1⟩
def wAsg (te : TE3) (g : TG3) : TS3 := fun D τ G => te τ G fun x G1 => g x τ G1 D.nx
theorem qasg {tg : Expr} {g : TG3} (he : QE X e ta) (hg : QG X tg g) (hs : swapsWithSole [tg] e pos.line X.env = pure false := by rfl) (hw : swappedStores [tg] e X.env = pure none := by rfl)
  (h1 : (assignEach [tg] X.env).map (·.2) = [assign tg X.env] := by rfl) : QS X (.Assign [tg] e pos) (wAsg ta g) := (ps_asg he hg hs hw h1).imp fun D σ H ⟨τ,G,D3,s,r,h,j⟩ =>
 ⟨τ,G,_,s,r,h,fun x G1 v H1 h1 k1 d1 r1 => ⟨x,τ,G1,_,d1,s.mono k1,r1,h1,j.nx.mono k1⟩⟩
def wNil : TA3 := fun _ G Q => Q [] G
def za3 (ta : TE3) (r : TA3) : TA3 := fun τ G Q => ta τ G fun x G1 => r τ G1 fun xs G2 => Q (x :: xs) G2
end
end L3
set_option Elab.async false
set_option linter.all false
set_option maxRecDepth 100000
set_option maxHeartbeats 4000000
namespace L3
open PySem PySem.Spec PyProof.Rows L2
section
variable {X : Cx} {e a b c o : Expr} {es : List Expr} {pos apos p : Pos} {ta tb tv : TE3} {t : TA3}
theorem qa0 : QA X [] wNil := pa_nil.imp fun σ H Q ⟨τ,G,Q3,s,r,h,i⟩ => i [] G [] H h (Kp.refl _) .nil r
theorem qa (ha : QE X e ta) (hr : QA X es t) (hs : starEach (e :: es) X.env = (false,eval e X.env) :: starEach es X.env := by rfl) : QA X (e :: es) (za3 ta t) := (pa_cons ha hr hs).imp fun σ H Q ⟨τ,G,Q3,s,r,h,i⟩ =>
 ⟨τ,G,_,s,r,h,fun x G1 v H1 h1 k1 d1 r1 => ⟨τ,G1,_,s.mono k1,r1,h1,fun ts G2 vs H2 h2 k2 d2 r2 => i _ G2 _ H2 h2 (k1.trans k2) (.cons (d1.mono k2) d2) r2⟩⟩
def wTup (t : TA3) : TE3 := fun τ G Q => t τ G fun xs G1 => xs.length <= 1000 /\ Q (.tup xs) G1
theorem qtup {x1} (h : QA X es t) : QE X (.Tuple es x1 pos) (wTup t) := (pe_tup h).imp fun σ H Q ⟨τ,G,Q3,s,r,h,i⟩ =>
 ⟨τ,G,_,s,r,h,fun ts G1 vs H1 h1 k1 d1 r1 => ⟨by rw [d1.length]; exact Nat.le_of_lt (small1000 h1.1),fun p hp => i _ G1 _ _ h1.2 (k1.trans (Kp.new hp)) (.tup (SqT.of zag) (d1.mono (Kp.new hp))) (r1.lay hp)⟩⟩
def wLst (t : TA3) : TE3 := fun τ G Q => t τ G fun xs G1 => xs.length <= 1000 /\ ∀ p,G1 p = none -> Q (.ref p) (updG G1 p (.lst xs))
theorem qlst (h : QA X es t) : QE X (.List es pos) (wLst t) := (pe_lst h).imp fun σ H Q ⟨τ,G,Q3,s,r,h,i⟩ =>
 ⟨τ,G,_,s,r,h,fun ts G1 vs H1 h1 k1 d1 r1 => ⟨by rw [d1.length]; exact Nat.le_of_lt (small1000 h1.1),fun p hp => i _ _ _ _ (h1.2 p (r1.free hp)) (k1.trans (Kp.new hp)) (.ref p) (r1.new hp ⟨_,zag,d1.mono (Kp.new hp)⟩)⟩⟩
def Att (K : PySem.W.Frag) (C : Addr) (f : Str) : Prop := Cls K C /\ NoAttr K C f
theorem Flds.lookup {K : KW} {H : Hp} {f : Str} : ∀ {xs : List (Str × V)} {fs : List (Str × T)} {t : T},Flds K H xs fs -> fs.lookup f = some t -> ∃ v,xs.lookup f = some v /\ Den K H v t
 | _,_,_,.nil,e => by simp at e
 | (g,x) :: xs,(g',y) :: fs,t,.cons ⟨e1,d⟩ r,e => by
  simp only at e1 d
  subst e1
  rw [List.lookup_cons] at e ⊢
  cases hb : f == g with
  | true => rw [hb] at e; cases e; exact ⟨x,rfl,d⟩
  | false => rw [hb] at e; exact Flds.lookup r e
theorem Flds.lookupN {K : KW} {H : Hp} {f : Str} : ∀ {xs : List (Str × V)} {fs : List (Str × T)},Flds K H xs fs -> fs.lookup f = none -> xs.lookup f = none
 | _,_,.nil,e => rfl
 | (g,x) :: xs,(g',y) :: fs,.cons ⟨e1,d⟩ r,e => by
  simp only at e1 d
  subst e1
  rw [List.lookup_cons] at e ⊢
  cases hb : f == g with
  | true => rw [hb] at e; cases e
  | false => rw [hb] at e; exact Flds.lookupN r e
theorem Flds.length {K : KW} {H : Hp} {xs : List (Str × V)} {fs : List (Str × T)} (h : Flds K H xs fs) : xs.length = fs.length := Paired.length h
def putG (f : Str) (t : T) : List (Str × T) -> List (Str × T)
 | [] => [(f,t)]
 | (g,x) :: r => match f == g with
  | true => (g,t) :: r
  | false => (g,x) :: putG f t r
theorem Flds.put {K : KW} {H : Hp} {f : Str} {v : V} {t : T} (d : Den K H v t) : ∀ {xs : List (Str × V)} {fs : List (Str × T)},Flds K H xs fs -> Flds K H (putF f v xs) (putG f t fs)
 | _,_,.nil => .cons ⟨rfl,d⟩ .nil
 | (g,x) :: xs,(g',y) :: fs,.cons ⟨e1,d'⟩ r => by
  simp only at e1 d'
  subst e1
  unfold putF putG
  by_cases z : g = f
  ·subst z
   rw [if_pos rfl,beq_self_eq_true]
   exact .cons ⟨rfl,d⟩ r
  ·rw [if_neg z,beq_eq_false_iff_ne.mpr (Ne.symm z)]
   exact .cons ⟨rfl,d'⟩ (Flds.put d r)
def fldAt (K : PySem.W.Frag) (x : T) (G : Gp) (f : Str) (Q : VK3) : Prop := match x with
 | .ref p => (match G p with
  | some (.ins C fs) => (match fs.lookup f with
   | some v => Att K C f /\ Q v G
   | none => False)
  | _ => False)
 | _ => False
def wFld (K : PySem.W.Frag) (ta : TE3) (f : Str) : TE3 := fun τ G Q => ta τ G fun x G1 => fldAt K x G1 f Q
theorem zb2 {f : Str} (he : QE X e ta) (hb : attributeBase e f X.env (eval e X.env) = eval e X.env := by rfl) : QE X (.Attribute e f pos) (wFld X.K ta f) := (pe_fld he hb).imp fun σ H Q ⟨τ,G,Q3,s,r,h,i⟩ => by
 refine ⟨τ,G,_,s,r,h,fun x G1 v H1 h1 k1 d1 r1 => ?_⟩
 cases d1 with
 | ref q =>
  simp only [fldAt] at h1
  split at h1
  ·rename_i C fs e1
   split at h1
   ·rename_i y e2
    obtain ⟨dx,xs,e3,F⟩ := r1 q _ e1
    obtain ⟨w,e4,d⟩ := F.lookup e2
    exact ⟨q,C,dx,xs,w,rfl,e3,h1.1.1,h1.1.2,e4,i y G1 w H1 h1.2 k1 d r1⟩
   ·exact h1.elim
  ·exact h1.elim
 | _ => exact False.elim h1
def putAtt (K : PySem.W.Frag) (x y : T) (f : Str) (G : Gp) (Q : Gp -> Prop) : Prop := match x with
 | .ref p => (match G p with
  | some (.ins C fs) => Att K C f /\ fs.length < 1000 /\ Q (updG G p (.ins C (putG f y fs)))
  | _ => False)
 | _ => False
def zbn (K : PySem.W.Frag) (ta tv : TE3) (f : Str) : TS3 := fun D τ G => tv τ G fun y G1 => ta τ G1 fun x G2 => putAtt K x y f G2 (D.nx τ)
theorem zar {f : Str} {v : Expr} {pos' : Pos} (ha : QE X o ta) (hv : QE X v tv) (hs : swapsWith v (some (.Attribute o f pos')) pos.line X.env = pure false := by rfl) : QS X (.Assign [.Attribute o f pos'] v pos) (zbn X.K ta tv f) :=
 (ps_fld ha hv hs).imp fun D σ H ⟨τ,G,D3,s,r,h,i⟩ => by
  refine ⟨τ,G,_,s,r,h,fun y G1 v H1 h1 k1 d1 r1 => ⟨τ,G1,_,s.mono k1,r1,h1,fun x G2 u H2 h2 k2 d2 r2 => ?_⟩⟩
  cases d2 with
  | ref q =>
   simp only [putAtt] at h2
   split at h2
   ·rename_i C fs e1
    obtain ⟨dx,xs,e3,F⟩ := r2 q _ e1
    have km : Kp H2 (upd H2 q (.ins C dx (putF f v xs))) := Kp.mut (by rw [e3]; trivial)
    refine ⟨q,C,dx,xs,rfl,e3,h2.1.1,h2.1.2,by rw [F.length]; exact h2.2.1,?_⟩
    exact i.nx τ _ σ _ h2.2.2 ((k1.trans k2).trans km) (s.mono ((k1.trans k2).trans km)) (r2.put e1 ⟨dx,_,zag,(F.put (d1.mono k2)).mono km⟩)
   ·exact h2.elim
  | _ => exact False.elim h2
abbrev Sp3 := List T -> Gp -> VK3 -> Prop
def lSp (K : KW) (sp : Sp3) : Sp := fun vs H Q _ => ∃ ts G Q3,Dens K H vs ts /\ HR K H G /\ sp ts G Q3 /\ Imp K H Q3 Q
abbrev FOk (P : Program) (w : World) (K : PySem.W.Frag) (mg : Str -> Option Value) (base : Heap) (k : Nat) (f : Addr) (fd : FuncData) (ps : List Str) (sp : Sp3) : Prop := FnOk P w K mg base CX0 k f fd ps (lSp ⟨K,w,P⟩ sp)
theorem ok3 {P : Program} {w : World} {K : PySem.W.Frag} {mg : Str -> Option Value} {base : Heap} {x qual : Str} {st : Stmt} {f : Addr} {fd : FuncData} {N ps : List Str} {k : Nat} {sp : Sp3} (F : Fun K x qual st f fd) (S : FnScope N ps (zab st))
  (len : ∀ ts G Q,sp ts G Q -> ts.length = ps.length)
  (hbody : ∀ (cdv : Value) (A : Around) (outer : List Env) (s : Shared) (H : Hp) (E : XK),Room k (A.deeper (envOfC qual (zab st) s.heap.objs.size f cdv)) ->
   ∃ t,QSs (cxOf CX0 P w K mg base N qual (zab st) f cdv A outer s H E).nox (zae st) t /\ ∀ ts G Q,sp ts G Q -> t { nx := fun _ G' => Q .non G',rt := Q } (start3 N.length ts) G) :
  FOk P w K mg base (k + 1) f fd ps sp := by
 refine F.ok S (fun vs H Q E ⟨ts,G,Q3,d,_,h,_⟩ => d.length.trans (len ts G Q3 h)) (fun cdv A outer s H vs Q E hr h => ?_)
 obtain ⟨ts,G,Q3,d,r,h,i⟩ := h
 obtain ⟨t,h1,h2⟩ := hbody cdv A outer s H E hr
 refine ⟨_,h1,start3 N.length ts,G,_,Sts.start N d,r,h2 ts G Q3 h,?_⟩
 exact ⟨fun τ G' σ' H' q k _ r' => i _ G' _ H' q k .non r',i,fun _ _ _ _ q _ _ _ => False.elim q,fun _ _ _ _ q _ _ _ => False.elim q⟩
def wCall (sp : Sp3) (t : TA3) : TE3 := fun τ G Q => t τ G fun ts G1 => sp ts G1 Q
section
variable {k : Nat} {f C : Addr} {fd : FuncData} {ps : List Str} {sp : Sp3} {x m : Str}
theorem lcall {K : KW} {σ : L2.St} {H : Hp} {Q : VK} (h : lE K (wCall sp t) σ H Q) : tCall (lSp K sp) [] E0 (lA K t) σ H Q := by
 obtain ⟨τ,G,Q3,s,r,h,i⟩ := h
 exact ⟨τ,G,_,s,r,h,fun ts G1 vs H1 h1 k1 d1 r1 => ⟨ts,G1,Q3,by rw [List.append_nil]; exact d1,r1,h1,i.mono k1⟩⟩
theorem qcall (F : FOk X.prog X.w X.K X.mg X.base k f fd ps sp) (hr : Room k X.A) (hm : X.mg x = some (.ref f)) (hk : PySem.W.keepIn X.K (.ref f) = true) (hb : Binds X.K fd ps [])
  (ha : QA X (e :: es) t) (hg : Gl X x := by rfl) (hdb : (x == ("__debug__" : Str)) = false := by decide) (he : starEach (e :: es) X.env = (false,eval e X.env) :: starEach es X.env := by rfl) (hpl : (backTo pos (starEach es X.env)).any (·.1) = false := by rfl) :
  QE X (.Call (.Name x p) (e :: es) [] pos) (wCall sp t) := (pe_call F hr hg hm hk hb .nil pass0 ha hdb he hpl).imp fun σ H Q h => lcall h
def onIns (x : T) (C : Addr) (m : Str) (G : Gp) (Q : Prop) : Prop := match x with
 | .ref p => (match G p with
  | some (.ins C' fs) => (C' = C /\ fs.lookup m = none) /\ Q
  | _ => False)
 | _ => False
def wMeth (C : Addr) (m : Str) (sp : Sp3) (ta : TE3) (t : TA3) : TE3 := fun τ G Q => ta τ G fun x G1 => onIns x C m G1 (t τ G1 fun ts G2 => sp (x :: ts) G2 Q)
theorem lmeth {K : KW} {σ : L2.St} {H : Hp} {Q : VK} (h : lE K (wMeth C m sp ta t) σ H Q) : tMeth C m (lSp K sp) [] E0 (lE K ta) (lA K t) σ H Q := by
 obtain ⟨τ,G,Q3,s,r,h,i⟩ := h
 refine ⟨τ,G,_,s,r,h,fun x G1 v H1 h1 k1 d1 r1 => ?_⟩
 cases d1 with
 | ref q =>
  simp only [onIns] at h1
  split at h1
  ·rename_i C' fs e1
   obtain ⟨⟨e2,e3⟩,h1⟩ := h1
   subst e2
   obtain ⟨dx,xs,e4,F⟩ := r1 q _ e1
   refine ⟨q,dx,xs,rfl,e4,F.lookupN e3,?_⟩
   exact ⟨τ,G1,_,s.mono k1,r1,h1,fun ts G2 vs H2 h2 k2 d2 r2 => ⟨.ref q :: ts,G2,Q3,by rw [List.append_nil]; exact .cons (.ref q) d2,r2,h2,i.mono (k1.trans k2)⟩⟩
  ·exact h1.elim
 | _ => exact False.elim h1
theorem qmeth {pl : Sem Bool} (he : QE X o ta) (c : Cls X.K C) (hm : Meth X.K C m f) (F : FOk X.prog X.w X.K X.mg X.base k f fd ps sp) (hr : Room k X.A) (hb : Binds X.K fd ps []) (ha : QA X (e :: es) t)
  (hst : starEach (e :: es) X.env = (false,eval e X.env) :: starEach es X.env := by rfl) (hpl : (backTo pos (starEach es X.env)).any (·.1) = false := by rfl)
  (ht : eval (.Call (.Attribute o m apos) (e :: es) [] pos) X.env = (do
   let ov <- eval o X.env
   standAt apos.atName
   let (f,first) <- holding [ov] (getMethod ov m pl)
   callWith pos f first (backTo pos (starEach (e :: es) X.env)) (backToKw pos (keywordEach [] X.env))) := by rfl) :
  QE X (.Call (.Attribute o m apos) (e :: es) [] pos) (wMeth C m sp ta t) := (pe_meth he c hm F hr hb .nil pass0 ha hst hpl ht).imp fun σ H Q h => lmeth h
def wMeth0 (C : Addr) (m : Str) (sp : Sp3) (ta : TE3) : TE3 := fun τ G Q => ta τ G fun x G1 => onIns x C m G1 (sp [x] G1 Q)
theorem qmeth0 {pl : Sem Bool} (he : QE X o ta) (c : Cls X.K C) (hm : Meth X.K C m f) (F : FOk X.prog X.w X.K X.mg X.base k f fd ps sp) (hr : Room k X.A) (hb : Binds X.K fd ps [])
  (ht : eval (.Call (.Attribute o m apos) [] [] pos) X.env = (do
   let ov <- eval o X.env
   standAt apos.atName
   let (f,first) <- holding [ov] (getMethod ov m pl)
   callWith pos f first (backTo pos (starEach [] X.env)) (backToKw pos (keywordEach [] X.env))) := by rfl) :
  QE X (.Call (.Attribute o m apos) [] [] pos) (wMeth0 C m sp ta) := (pe_meth0 he c hm F hr hb .nil pass0 ht).imp fun σ H Q h => by
 have h' : lE X.kw (wMeth C m sp ta wNil) σ H Q := h
 have := lmeth h'
 obtain ⟨τ,G,Q3,s,r,h,i⟩ := h
 refine ⟨τ,G,_,s,r,h,fun x G1 v H1 h1 k1 d1 r1 => ?_⟩
 cases d1 with
 | ref q =>
  simp only [onIns] at h1
  split at h1
  ·rename_i C' fs e1
   obtain ⟨⟨e2,e3⟩,h1⟩ := h1
   subst e2
   obtain ⟨dx,xs,e4,F⟩ := r1 q _ e1
   exact ⟨q,dx,xs,rfl,e4,F.lookupN e3,⟨[.ref q],G1,Q3,.cons (.ref q) .nil,r1,h1,i.mono k1⟩⟩
  ·exact h1.elim
 | _ => exact False.elim h1
def wMake (C : Addr) (sp : Sp3) (t : TA3) : TE3 := fun τ G Q => t τ G fun ts G1 => ∀ x,G1 x = none -> sp (.ref x :: ts) (updG G1 x (.ins C [])) fun v G2 => match v with
 | .non => Q (.ref x) G2
 | _ => False
theorem lmake {K : KW} {σ : L2.St} {H : Hp} {Q : VK} (h : lE K (wMake C sp t) σ H Q) : tMake C (lSp K sp) [] E0 (lA K t) σ H Q := by
 obtain ⟨τ,G,Q3,s,r,h,i⟩ := h
 refine ⟨τ,G,_,s,r,h,fun ts G1 vs H1 h1 k1 d1 r1 x dx nx ndx ne => ?_⟩
 have nx' : (upd H1 dx (.own x)) x = none := by rw [zah (Ne.symm ne)]; exact nx
 have kk : Kp H1 (upd (upd H1 dx (.own x)) x (.ins C dx [])) := (Kp.new ndx).trans (Kp.new nx')
 refine ⟨.ref x :: ts,_,_,by rw [List.append_nil]; exact .cons (.ref x) (d1.mono kk),(r1.lay ndx).new (o := .ins C []) nx' ⟨dx,[],zag,.nil⟩,h1 x (r1.free nx),fun y G' v H' q k d r' => ?_⟩
 cases d with
 | non => exact ⟨rfl,i _ G' _ H' q ((k1.trans kk).trans k) (.ref x) r'⟩
 | _ => exact False.elim q
theorem qmake (M : Mk X.K C f) (F : FOk X.prog X.w X.K X.mg X.base k f fd ps sp) (hr : Room (k + 1) X.A) (hm : X.mg x = some (.ref C)) (hb : Binds X.K fd ps []) (ha : QA X (e :: es) t)
  (hg : Gl X x := by rfl) (hdb : (x == ("__debug__" : Str)) = false := by decide) (he : starEach (e :: es) X.env = (false,eval e X.env) :: starEach es X.env := by rfl) (hpl : (backTo pos (starEach es X.env)).any (·.1) = false := by rfl) :
  QE X (.Call (.Name x p) (e :: es) [] pos) (wMake C sp t) := (pe_make M F hr hg hm hb .nil pass0 ha hdb he hpl).imp fun σ H Q h => lmake h
theorem qmake0 (M : Mk X.K C f) (F : FOk X.prog X.w X.K X.mg X.base k f fd ps sp) (hr : Room (k + 1) X.A) (hm : X.mg x = some (.ref C)) (hb : Binds X.K fd ps [])
  (hg : Gl X x := by rfl) (hdb : (x == ("__debug__" : Str)) = false := by decide) :
  QE X (.Call (.Name x p) [] [] pos) (wMake C sp wNil) := (pe_make0 M F hr hg hm hb .nil pass0 hdb).imp fun σ H Q h => by
 have := lmake h
 obtain ⟨τ,G,Q3,s,r,h,i⟩ := h
 refine fun x dx nx ndx ne => ?_
 have nx' : (upd H dx (.own x)) x = none := by rw [zah (Ne.symm ne)]; exact nx
 have kk : Kp H (upd (upd H dx (.own x)) x (.ins C dx [])) := (Kp.new ndx).trans (Kp.new nx')
 refine ⟨[.ref x],_,_,.cons (.ref x) .nil,(r.lay ndx).new (o := .ins C []) nx' ⟨dx,[],zag,.nil⟩,h x (r.free nx),fun y G' v H' q k d r' => ?_⟩
 cases d with
 | non => exact ⟨rfl,i _ G' _ H' q (kk.trans k) (.ref x) r'⟩
 | _ => exact False.elim q
end
def LC (K : KW) (r3 : List T -> Gp -> VK3 -> Prop) (r : List V -> Hp -> VK -> Prop) : Prop := ∀ H G xs ts Q Q3,Dens K H xs ts -> HR K H G -> r3 ts G Q3 -> Imp K H Q3 Q -> r xs H Q
def wCB (r3 : List T -> Gp -> VK3 -> Prop) (t : TA3) : TE3 := fun τ G Q => t τ G fun ts G1 => r3 ts G1 Q
theorem lCB {K : KW} {r3 : List T -> Gp -> VK3 -> Prop} {r : List V -> Hp -> VK -> Prop} (l : LC K r3 r) {σ : L2.St} {H : Hp} {Q : VK} (h : lE K (wCB r3 t) σ H Q) : tCB r (lA K t) σ H Q := by
 obtain ⟨τ,G,Q3,s,r,h,i⟩ := h
 exact ⟨τ,G,_,s,r,h,fun ts G1 vs H1 h1 k1 d1 r1 => l H1 G1 vs ts Q Q3 d1 r1 h1 (i.mono k1)⟩
theorem qcallB {x : Str} {id : String} {r3 : List T -> Gp -> VK3 -> Prop} {r : List V -> Hp -> VK -> Prop} (hc : zbG X (.builtin id) r) (l : LC X.kw r3 r) (hm : X.mg x = none) (hv : bootBuiltins x = some (.builtin id)) (ha : QA X (e :: es) t) (hg : Gl X x := by rfl) (hn : x ≠ "__name__" := by decide) (hdb : (x == ("__debug__" : Str)) = false := by decide)
  (he : starEach (e :: es) X.env = (false,eval e X.env) :: starEach es X.env := by rfl) (hpl : (backTo pos (starEach es X.env)).any (·.1) = false := by rfl) : QE X (.Call (.Name x p) (e :: es) [] pos) (wCB r3 t) :=
 (pe_callB hc hg hm hv ha hn hdb he hpl).imp fun σ H Q h => lCB l h
theorem qcallTy {x : Str} {ty : String} {r3 : List T -> Gp -> VK3 -> Prop} {r : List V -> Hp -> VK -> Prop} (hc : zbG X (.type ty) r) (l : LC X.kw r3 r) (hm : X.mg x = none) (hv : bootBuiltins x = some (.type ty)) (ha : QA X (e :: es) t) (hg : Gl X x := by rfl) (hn : x ≠ "__name__" := by decide) (hdb : (x == ("__debug__" : Str)) = false := by decide)
  (he : starEach (e :: es) X.env = (false,eval e X.env) :: starEach es X.env := by rfl) (hpl : (backTo pos (starEach es X.env)).any (·.1) = false := by rfl) : QE X (.Call (.Name x p) (e :: es) [] pos) (wCB r3 t) :=
 (pe_callTy hc hg hm hv ha hn hdb he hpl).imp fun σ H Q h => lCB l h
def zbm (x : T) (G : Gp) : Option (List T) := match x with
 | .tup ts => some ts
 | .fro ts => some ts
 | .ref p => (match G p with
  | some (.lst ts) => some ts
  | _ => none)
 | _ => none
theorem seqOf_den {K : KW} {H : Hp} {G : Gp} {v : V} {x : T} {ts : List T} (d : Den K H v x) (r : HR K H G) (h : zbm x G = some ts) : ∃ p xs,v = .ref p /\ (SqL K.k H p xs ∨ SqT K.k H p xs) /\ Dens K H xs ts := by
 cases d with
 | tup q ds => cases h; exact ⟨_,_,rfl,.inr q,ds⟩
 | fro q ds => cases h; exact ⟨_,_,rfl,.inl q.sq,ds⟩
 | ref a =>
  simp only [zbm] at h
  split at h
  ·rename_i us e; cases h
   obtain ⟨xs,e1,ds⟩ := r a _ e
   exact ⟨a,xs,rfl,.inl (SqL.of e1),ds⟩
  ·cases h
 | _ => cases h
def ix3 : R3 := fun x y G Q => match y with
 | .int i => (match zbm x G with
  | some ts => (match atI ts i with
   | some v => Q v G
   | none => False)
  | none => False)
 | _ => False
theorem atI_den {K : KW} {H : Hp} {xs : List V} {ts : List T} {i : Int} {t : T} (d : Dens K H xs ts) (h : atI ts i = some t) : ∃ v,atI xs i = some v /\ Den K H v t := by
 unfold atI at h ⊢
 rw [d.length]
 cases e : ixN ts.length i with
 | none => rw [e] at h; cases h
 | some j =>
  rw [e] at h
  exact d.get h
end
end L3
set_option Elab.async false
set_option linter.all false
set_option maxRecDepth 100000
set_option maxHeartbeats 4000000
namespace L3
open PySem PySem.Spec PyProof.Rows L2
structure ItOk (K : KW) (H1 : Hp) (J : It) (ts : List T) (S : Gp -> Prop) : Prop where
 go : ∀ i H G,Kp H1 H -> HR K H G -> S G -> i < ts.length -> J.go i H
 yld : ∀ i H G x H',Kp H1 H -> HR K H G -> S G -> i < ts.length -> J.yld i H x H' -> Kp H H' /\ HR K H' G /\ ∃ t,ts[i]? = some t /\ Den K H' x t
 stop : ∀ i H G,Kp H1 H -> HR K H G -> S G -> ts.length <= i -> J.stop i H
abbrev TI3 := St3 -> Gp -> (List T -> (Gp -> Prop) -> Gp -> Prop) -> Prop
def lIt (K : KW) (it : TI3) : TI := fun σ H R => ∃ τ G Q3,Sts K H σ τ /\ HR K H G /\ it τ G Q3 /\ ∀ ts S G' J H',Q3 ts S G' -> Kp H H' -> HR K H' G' -> ItOk K H' J ts S -> R J H'
abbrev QI (X : Cx) (tg iter : Expr) (it : TI3) : Prop := PI X tg iter (lIt X.kw it)
def forL (g : TG3) (tb : TS3) (S : Gp -> Prop) : List T -> TS3
 | [] => fun D τ G => S G /\ D.nx τ G
 | x :: r => fun D τ G => S G /\ g x τ G fun τ' G' => tb { D with nx := forL g tb S r D,ct := forL g tb S r D,bk := D.nx } τ' G'
def wFor (it : TI3) (g : TG3) (tb : TS3) : TS3 := fun D τ G => it τ G fun ts S G1 => forL g tb S ts D τ G1
section
variable {X : Cx} {tg iter : Expr} {body : List Stmt} {it : TI3} {g : TG3} {tb : TS3} {pos : Pos}
theorem _root_.L2.PI.imp {wi wi' : TI} (h : PI X tg iter wi) (i : ∀ σ H R,wi' σ H R -> wi σ H R) : PI X tg iter wi' := fun pins s σ H R I q => h pins s σ H R I (i _ _ _ q)
theorem qfor (hi : QI X tg iter it) (hg : QG X tg g) (hb : QSs X body tb) (hp : PassesOwn (model X.prog X.w) X.A X.env X.xe := by exact PassesOwn.never) (hc : X.calm = true := by rfl)
  (hs : ∀ x,foldedSetIterable iter X.env x = pure x := by intro _; rfl) : QS X (.For tg iter body [] pos) (wFor it g tb) := (ps_for hp hc hi hg hb hs).imp fun D σ H ⟨τ,G,D3,s,r,h,i⟩ => by
 refine ⟨τ,G,_,s,r,h,fun ts S G1 J H1 h1 k1 r1 ok => ?_⟩
 refine ⟨fun j m σ' H' => m = ts.length - j /\ j <= ts.length /\ Kp H1 H' /\ ∃ τ' G',Sts X.kw H' σ' τ' /\ HR X.kw H' G' /\ forL g tb S (ts.drop j) D3 τ' G',⟨_,rfl,Nat.zero_le _,Kp.refl _,τ,G1,s.mono k1,r1,by simpa using h1⟩,?_⟩
 rintro j m σ' H' ⟨rfl,hj,k,τ',G',s',r',h'⟩
 by_cases hlt : j < ts.length
 ·obtain ⟨x,hx⟩ : ∃ x,ts[j]? = some x := ⟨ts[j],by simp [hlt]⟩
  have ed : ts.drop j = x :: ts.drop (j + 1) := by
   rw [List.drop_eq_getElem_cons hlt]
   congr 1
   rw [List.getElem?_eq_getElem hlt] at hx
   exact Option.some.inj hx
  rw [ed] at h'
  obtain ⟨hS,h'⟩ := h'
  refine .inr ⟨ok.go j H' G' k r' hS hlt,fun σ2 H2 => Kp H1 H2 /\ ∃ τ2 G2,Sts X.kw H2 σ2 τ2 /\ HR X.kw H2 G2 /\ forL g tb S (ts.drop (j + 1)) D3 τ2 G2,fun σ2 H2 ⟨k2,q2⟩ => ⟨_,by omega,rfl,hlt,k2,q2⟩,fun y H2 hy => ?_⟩
  obtain ⟨k2,r2,t,et,dt⟩ := ok.yld j H' G' y H2 k r' hS hlt hy
  rw [hx] at et; cases et
  refine ⟨x,τ',G',_,dt,s'.mono k2,r2,h',fun τ3 G3 σ3 H3 q3 k3 s3 r3 => ?_⟩
  have kk : Kp H H3 := (k1.trans k).trans (k2.trans k3)
  refine ⟨τ3,G3,_,s3,r3,q3,⟨fun τ4 G4 σ4 H4 q4 k4 s4 r4 => ⟨(k.trans k2).trans (k3.trans k4),τ4,G4,s4,r4,q4⟩,i.rt.mono kk,i.nx.mono kk,fun τ4 G4 σ4 H4 q4 k4 s4 r4 => ⟨(k.trans k2).trans (k3.trans k4),τ4,G4,s4,r4,q4⟩⟩⟩
 ·have ed : ts.drop j = [] := List.drop_eq_nil_of_le (by omega)
  rw [ed] at h'
  obtain ⟨hS,h'⟩ := h'
  exact .inl ⟨ok.stop j H' G' k r' hS (by omega),i.nx τ' G' σ' H' h' (k1.trans k) s' r'⟩
variable {l : Expr} {tl : TE3} {p : Pos} {a b : Expr} {t : TA3}
def iSeq (tl : TE3) : TI3 := fun τ G R => tl τ G fun x G1 => match x with
 | .tup ts => R ts (fun _ => True) G1
 | .fro ts => R ts (fun _ => True) G1
 | .ref q => (match G1 q with
  | some (.lst ts) => R ts (fun G => G q = some (.lst ts)) G1
  | _ => False)
 | _ => False
def rngT (lo hi : Int) : List T := (List.range (hi - lo).toNat).map fun (k : Nat) => T.int (lo + k)
theorem itr_ok {K : KW} {H1 : Hp} {lo hi : Int} : ItOk K H1 (Itr lo (hi - lo).toNat) (rngT lo hi) (fun _ => True) where
 go := fun i H G _ _ _ hk => by
  have e : (rngT lo hi).length = (hi - lo).toNat := by simp [rngT]
  show i < (hi - lo).toNat
  omega
 yld := fun i H G x H' _ r _ hk hy => by
  obtain ⟨e1,e2⟩ := hy
  subst e1; subst e2
  have e : (rngT lo hi).length = (hi - lo).toNat := by simp [rngT]
  have hi' : i < (hi - lo).toNat := by omega
  refine ⟨Kp.refl _,r,.int (lo + i),?_,.int _⟩
  unfold rngT
  rw [List.getElem?_map,List.getElem?_range hi']
  rfl
 stop := fun i H G _ _ _ hk => by
  have e : (rngT lo hi).length = (hi - lo).toNat := by simp [rngT]
  show (hi - lo).toNat <= i
  omega
def iR1 (t : TA3) : TI3 := fun τ G R => t τ G fun ts G1 => match ts with
 | [.int j] => (-(2 ^ 62) <= j /\ j < 2 ^ 62) /\ R (rngT 0 j) (fun _ => True) G1
 | _ => False
def iR2 (t : TA3) : TI3 := fun τ G R => t τ G fun ts G1 => match ts with
 | [.int i,.int j] => (-(2 ^ 62) <= i /\ i < 2 ^ 62 /\ -(2 ^ 62) <= j /\ j < 2 ^ 62) /\ R (rngT i j) (fun _ => True) G1
 | _ => False
theorem qi_r1 (hm : X.mg "range" = none) (ha : QA X [a] t) (hg : Gl X "range" := by rfl) (hs : starEach [a] X.env = [(false,eval a X.env)] := by rfl) : QI X tg (.Call (.Name "range" p) [a] [] pos) (iR1 t) :=
 (pi_range1 hg hm ha hs).imp fun σ H R ⟨τ,G,Q3,s,r,h,i⟩ => by
  refine ⟨τ,G,_,s,r,h,fun ts G1 vs H1 h1 k1 d1 r1 => ?_⟩
  split at h1
  ·rename_i j
   cases d1 with
   | cons d d2 =>
    cases d2; cases d
    refine ⟨j,rfl,h1.1.1,h1.1.2,i _ _ G1 _ H1 h1.2 k1 r1 ?_⟩
    have := itr_ok (K := X.kw) (H1 := H1) (lo := 0) (hi := j)
    rwa [show (j - 0).toNat = j.toNat by rw [Int.sub_zero]] at this
  ·exact h1.elim
end
end L3
set_option Elab.async false
set_option linter.all false
set_option maxRecDepth 100000
set_option maxHeartbeats 4000000
namespace L3
open PySem PySem.Spec PyProof.Rows L2
def vis3 (sel : List (Option Nat)) (τ : St3) : St3 := sel.map fun o => o.bind fun j => (τ[j]?).join
theorem Sts.vis {K : KW} {H : Hp} {σ : L2.St} {τ : St3} (s : Sts K H σ τ) : ∀ (sel : List (Option Nat)),Sts K H (visS sel σ) (vis3 sel τ)
 | [] => .nil
 | none :: r => .no (Sts.vis s r)
 | some j :: r => by
  show Sts K H ((σ[j]?).join :: visS r σ) ((τ[j]?).join :: vis3 r τ)
  cases e : (τ[j]?).join with
  | none => exact .no (Sts.vis s r)
  | some t =>
   have e' : τ[j]? = some (some t) := by
    cases q : τ[j]? with
    | none => rw [q] at e; cases e
    | some z => rw [q] at e; simp at e; rw [e]
   obtain ⟨v,e2,d⟩ := s.get e'
   rw [e2]
   exact .yes d (Sts.vis s r)
def compL (g : TG3) (tc : TT3) (te : TE3) (S : Gp -> Prop) : List T -> St3 -> List T -> Gp -> (List T -> Gp -> Prop) -> Prop
 | [],_,acc,G,Q => S G /\ Q acc G
 | x :: r,τ,acc,G,Q => S G /\ g x τ G fun τ2 G2 => tc τ2 G2 fun b G3 => if b = true then te τ2 G3 fun y G4 => compL g tc te S r τ (acc ++ [y]) G4 Q else compL g tc te S r τ acc G3 Q
def wComp (sel : List (Option Nat)) (it : TI3) (g : TG3) (tc : TT3) (te : TE3) : TE3 := fun τ G Q => it τ G fun ts S G1 => ts.length <= 1000000 /\ compL g tc te S ts (vis3 sel τ) [] G1 fun acc G2 => ∀ d,G2 d = none -> Q (.ref d) (updG G2 d (.lst acc))
def wTrue : TT3 := fun _ G Q => Q true G
section
variable {X : Cx} {scope : Scope} {N : List Str} {sel : List (Option Nat)} {elt target iter : Expr} {ifs : List Expr} {it : TI3} {g : TG3} {tc : TT3} {te : TE3} {pos : Pos}
theorem lcomp {σ : L2.St} {H : Hp} {Q : VK} (h : lE X.kw (wComp sel it g tc te) σ H Q) : tComp sel (lIt X.kw it) (lG X.kw g) (lT X.kw tc) (lE X.kw te) σ H Q := by
 obtain ⟨τ,G,Q3,s,r,h,i⟩ := h
 refine ⟨τ,G,_,s,r,h,fun ts S G1 J H1 h1 k1 r1 ok => ?_⟩
 obtain ⟨hz,h1⟩ := h1
 have hl : (1000000 : Nat) < sizeLine := by rw [sizeLine_eq]; decide
 refine ⟨fun j m acc H' => m = ts.length - j /\ j <= ts.length /\ acc.length <= j /\ Kp H1 H' /\ ∃ acc3 G',Dens X.kw H' acc acc3 /\ HR X.kw H' G' /\ compL g tc te S (ts.drop j) (vis3 sel τ) acc3 G' fun acc G2 => ∀ d,G2 d = none -> Q3 (.ref d) (updG G2 d (.lst acc)),
  ⟨_,rfl,Nat.zero_le _,Nat.le_refl _,Kp.refl _,[],G1,.nil,r1,by simpa using h1⟩,?_⟩
 rintro j m acc H' ⟨rfl,hj,ha,k,acc3,G',d',r',h'⟩
 refine ⟨by omega,?_⟩
 by_cases hlt : j < ts.length
 ·obtain ⟨x,hx⟩ : ∃ x,ts[j]? = some x := ⟨ts[j],by simp [hlt]⟩
  have ed : ts.drop j = x :: ts.drop (j + 1) := by
   rw [List.drop_eq_getElem_cons hlt]
   congr 1
   rw [List.getElem?_eq_getElem hlt] at hx
   exact Option.some.inj hx
  rw [ed] at h'
  obtain ⟨hS,h'⟩ := h'
  refine .inr ⟨ok.go j H' G' k r' hS hlt,fun y H2 hy => ?_⟩
  obtain ⟨k2,r2,t,et,dt⟩ := ok.yld j H' G' y H2 k r' hS hlt hy
  rw [hx] at et; cases et
  have kk := (k1.trans k).trans k2
  refine ⟨x,vis3 sel τ,G',_,dt,(s.mono kk).vis sel,r2,h',fun τ3 G3 σ3 H3 q3 k3 s3 r3 => ?_⟩
  refine ⟨τ3,G3,_,s3,r3,q3,fun b G4 H4 q4 k4 r4 => ?_⟩
  cases b with
  | false =>
   rw [if_neg Bool.false_ne_true] at q4 ⊢
   exact ⟨_,by omega,rfl,hlt,by omega,((k.trans k2).trans k3).trans k4,acc3,G4,d'.mono ((k2.trans k3).trans k4),r4,q4⟩
  | true =>
   rw [if_pos rfl] at q4 ⊢
   refine ⟨τ3,G4,_,s3.mono k4,r4,q4,fun z G5 v H5 q5 k5 d5 r5 => ?_⟩
   exact ⟨_,by omega,rfl,hlt,by simp; omega,(((k.trans k2).trans k3).trans k4).trans k5,acc3 ++ [z],G5,(d'.mono (((k2.trans k3).trans k4).trans k5)).append (.cons d5 .nil),r5,q5⟩
 ·have ed : ts.drop j = [] := List.drop_eq_nil_of_le (by omega)
  rw [ed] at h'
  obtain ⟨hS,h'⟩ := h'
  refine .inl ⟨ok.stop j H' G' k r' hS (by omega),fun d hd => ?_⟩
  have kn := Kp.new (o := .lst acc) hd
  exact i _ _ _ _ (h' d (r'.free hd)) ((k1.trans k).trans kn) (.ref d) (r'.new (o := .lst acc3) hd ⟨acc,zag,d'.mono kn⟩)
abbrev QIfs (X : Cx) (ifs : List Expr) (t : TT3) : Prop := PIfs X ifs (lT X.kw t)
theorem qifs0 {X : Cx} : QIfs X [] wTrue := fun pins s σ H Q I h => by
 obtain ⟨τ,G,Q3,s',r,h,i⟩ := h
 exact pifs_nil pins s σ H Q I (i true G H h (Kp.refl _) r)
theorem qifs1 {X : Cx} {c : Expr} {t : TT3} (hc : QT X c t) : QIfs X [c] t := pifs_one hc
theorem qcomp (N : List Str) (sel : List (Option Nat)) (B : BlkOk X scope N sel) (hi : QI X target iter it)
  (hg : ∀ fp s H C,QG (blk X scope N fp s H C) target g) (ht : ∀ fp s H C,QIfs (blk X scope N fp s H C) ifs tc) (he : ∀ fp s H C,QE (blk X scope N fp s H C) elt te)
  (hs : ∀ x,foldedSetIterable iter X.env x = pure x := by intro _; rfl) (hc : X.calm = true := by rfl) : QE X (.ListComp elt [⟨target,iter,ifs,0⟩] scope pos) (wComp sel it g tc te) :=
 (pe_comp hc B hi hg ht he hs).imp fun σ H Q h => lcomp h
theorem qsetcomp (i : Nat) (N : List Str) (sel : List (Option Nat)) {y : Str} {py spos : Pos} (hN : X.N.Nodup) (B : BlkOk X scope N sel) (hi : QI X target iter it)
  (hg : ∀ fp s H C,QG (blk X scope N fp s H C) target g) (ht : ∀ fp s H C,QIfs (blk X scope N fp s H C) ifs tc) (he : ∀ fp s H C,QE (blk X scope N fp s H C) elt te)
  (hy : X.N[i]? = some y := by rfl) (hx : Loc X.env.scope y := by first | exact Or.inl rfl | exact Or.inr rfl)
  (hsw : swapsWith (.ListComp elt [⟨target,iter,ifs,0⟩] scope pos) (some (.Name y py)) spos.line X.env = pure true := by rfl)
  (hs : ∀ x,foldedSetIterable iter X.env x = pure x := by intro _; rfl) (hf : X.fn y = true ∨ X.env.scope.names.lookup y = some .local := by first | exact .inl rfl | exact .inr rfl | assumption) (hc : X.calm = true := by rfl) :
  QS X (.Assign [.Name y py] (.ListComp elt [⟨target,iter,ifs,0⟩] scope pos) spos) (wSet (wComp sel it g tc te) i) :=
 (ps_setcomp hc hN hy hx B hi hg ht he hsw hs hf).imp fun D σ H ⟨τ,G,D3,s,r,h,j⟩ => by
  refine lcomp ⟨τ,G,_,s,r,h,fun x G1 v H1 h1 k1 d1 r1 => ?_⟩
  exact j.nx _ G1 _ H1 h1 k1 ((s.mono k1).set d1 i) r1
end
end L3
set_option Elab.async false
set_option linter.all false
set_option maxRecDepth 100000
set_option maxHeartbeats 4000000
namespace L3
open PySem PySem.Spec PyProof.Rows L2
def allD (f : T -> Option PyData) : List T -> Option (List PyData)
 | [] => some []
 | t :: r => match f t,allD f r with
  | some d,some ds => some (d :: ds)
  | _,_ => none
def toD (G : Gp) : Nat -> T -> Option PyData
 | _,.non => some .none
 | _,.bl b => some (.bool b)
 | _,.int i => some (.int i)
 | _,.str x => if PyData.strOk x = true then some (.str x) else none
 | n + 1,.tup ts => (allD (toD G n) ts).map .tuple
 | n + 1,.fro ts => (allD (toD G n) ts).map .list
 | n + 1,.ref p => match G p with
  | some (.lst ts) => (allD (toD G n) ts).map .list
  | _ => none
 | _,_ => none
section
variable {X : Cx} {pins : List (Addr × Obj)} {σ : L2.St} {H : Hp} {s : Shared} {G : Gp}
theorem zcc {f : T -> Option PyData} {n : Nat} (hf : ∀ t v u d,f t = some d -> Den X.kw H v t -> zaG v u -> ∃ as,Reads s.heap u d as /\ d.canLay0 = true /\ d.depth <= n) :
  ∀ {ts : List T} {vs : List V} {us : List Value} {ds : List PyData},allD f ts = some ds -> Dens X.kw H vs ts -> zav vs us -> ∃ as,ReadsAll s.heap us ds as /\ PyData.canLayAll0 ds = true /\ PyData.depthAll ds <= n
 | [],_,_,_,h,.nil,.nil => by cases h; exact ⟨_,.nil,rfl,Nat.zero_le _⟩
 | t :: r,_,_,ds,h,.cons d dr,.cons rv rr => by
  unfold allD at h
  split at h
  ·rename_i d1 ds1 e1 e2
   cases h
   obtain ⟨as,r1,c1,p1⟩ := hf _ _ _ _ e1 d rv
   obtain ⟨bs,r2,c2,p2⟩ := zcc hf e2 dr rr
   refine ⟨_,.cons r1 r2,?_,?_⟩
   ·simp only [PyData.canLayAll0,c1,c2,Bool.and_self]
   ·simp only [PyData.depthAll]; omega
  ·cases h
theorem zb3 (I : Inv X pins σ H s) (r : HR X.kw H G) : ∀ (n : Nat) (t : T) (v : V) (u : Value) (d : PyData),toD G n t = some d -> Den X.kw H v t -> zaG v u -> ∃ as,Reads s.heap u d as /\ d.canLay0 = true /\ d.depth <= n := by
 intro n
 induction n with
 | zero =>
  intro t v u d h dn rv
  cases dn with
  | non => simp only [toD] at h; cases h; cases rv; exact ⟨_,.none,rfl,Nat.zero_le _⟩
  | bl b => simp only [toD] at h; cases h; cases rv; exact ⟨_,.bool b,rfl,Nat.zero_le _⟩
  | int i => simp only [toD] at h; cases h; obtain ⟨t,rfl⟩ := rv; exact ⟨_,.int i t,rfl,Nat.zero_le _⟩
  | str x =>
   simp only [toD] at h
   split at h
   ·rename_i hx; cases h; obtain ⟨t,rfl⟩ := rv; exact ⟨_,.str x t,by simpa only [PyData.canLay0] using hx,Nat.zero_le _⟩
   ·cases h
  | ref a => simp only [toD] at h; cases h
  | tup q ds => simp only [toD] at h; cases h
  | fro q ds => simp only [toD] at h; cases h
  | ty n => simp only [toD] at h; cases h
 | succ n ih =>
  intro t v u d h dn rv
  cases dn with
  | non => simp only [toD] at h; cases h; cases rv; exact ⟨_,.none,rfl,Nat.zero_le _⟩
  | bl b => simp only [toD] at h; cases h; cases rv; exact ⟨_,.bool b,rfl,Nat.zero_le _⟩
  | int i => simp only [toD] at h; cases h; obtain ⟨t,rfl⟩ := rv; exact ⟨_,.int i t,rfl,Nat.zero_le _⟩
  | str x =>
   simp only [toD] at h
   split at h
   ·rename_i hx; cases h; obtain ⟨t,rfl⟩ := rv; exact ⟨_,.str x t,by simpa only [PyData.canLay0] using hx,Nat.zero_le _⟩
   ·cases h
  | ref a =>
   simp only [toD] at h
   split at h
   ·rename_i ts e
    obtain ⟨xs,e1,ds⟩ := r a _ e
    obtain ⟨its,rr,⟨o,m,e2,c2,_,d2⟩,_⟩ := I.list (SqL.of e1)
    cases e3 : allD (toD G n) ts with
    | none => rw [e3] at h; cases h
    | some ys =>
     rw [e3] at h; cases h
     obtain ⟨as,r1,c1,p1⟩ := zcc ih e3 ds rr
     cases rv
     exact ⟨_,.list e2 c2 d2 r1,by simpa only [PyData.canLay0] using c1,by simp only [PyData.depth]; omega⟩
   ·cases h
  | tup q ds =>
   rename_i a xs ts
   simp only [toD] at h
   obtain ⟨its,rr,⟨o,e2,c2,m,d2⟩,_⟩ := I.tuple q
   cases e3 : allD (toD G n) ts with
   | none => rw [e3] at h; cases h
   | some ys =>
    rw [e3] at h; cases h
    obtain ⟨as,r1,c1,p1⟩ := zcc ih e3 ds rr
    cases rv
    exact ⟨_,.tuple e2 c2 d2 r1,by simpa only [PyData.canLay0] using c1,by simp only [PyData.depth]; omega⟩
  | fro q ds =>
   rename_i a xs ts
   simp only [toD] at h
   obtain ⟨its,rr,⟨o,m,e2,c2,_,d2⟩,_⟩ := I.list q.sq
   cases e3 : allD (toD G n) ts with
   | none => rw [e3] at h; cases h
   | some ys =>
    rw [e3] at h; cases h
    obtain ⟨as,r1,c1,p1⟩ := zcc ih e3 ds rr
    cases rv
    exact ⟨_,.list e2 c2 d2 r1,by simpa only [PyData.canLay0] using c1,by simp only [PyData.depth]; omega⟩
  | ty n => simp only [toD] at h; cases h
end
section
variable {X : Cx} {e a b c o : Expr} {es : List Expr} {pos apos p : Pos} {ta tb tv : TE3} {t : TA3} {k : Nat}
def rD (K : KW) (f : PyData -> PyData -> Bool) : R2 := fun x y H Q => ∃ G tx ty dx dy,Den K H x tx /\ Den K H y ty /\ HR K H G /\ toD G 20 tx = some dx /\ toD G 20 ty = some dy /\ Q (.bl (f dx dy)) H
def wD (f : PyData -> PyData -> Bool) : R3 := fun x y G Q => match toD G 20 x,toD G 20 y with
 | some dx,some dy => Q (.bl (f dx dy)) G
 | _,_ => False
theorem lD {K : KW} {f : PyData -> PyData -> Bool} : LR K (wD f) (rD K f) := by
 intro H G x y x3 y3 Q Q3 dx dy r h i
 unfold wD at h
 split at h
 ·rename_i d1 d2 e1 e2
  exact ⟨G,x3,y3,d1,d2,dx,dy,r,e1,e2,i _ G _ H h (Kp.refl _) (.bl _) r⟩
 ·exact h.elim
theorem op_eqD (hr : Room k X.A) : OpR X (compareOp .Eq) (rD X.kw PyData.eqv) := by
 intro pins s σ H x y v u Q I rx ry h
 obtain ⟨G,tx,ty,dx,dy,d1,d2,r,e1,e2,q⟩ := h
 obtain ⟨as,r1,c1,p1⟩ := zb3 I r 20 tx x v dx e1 d1 rx
 obtain ⟨bs,r2,c2,p2⟩ := zb3 I r 20 ty y u dy e2 d2 ry
 exact SeqAt.compareEq_reads r1 r2 c1 c2 (by have := hr.un; omega) ⟨.bl _,H,I,rfl,q⟩
theorem op_neD (hr : Room k X.A) : OpR X (compareOp .NotEq) (rD X.kw fun a b => !PyData.eqv a b) := by
 intro pins s σ H x y v u Q I rx ry h
 obtain ⟨G,tx,ty,dx,dy,d1,d2,r,e1,e2,q⟩ := h
 obtain ⟨as,r1,c1,p1⟩ := zb3 I r 20 tx x v dx e1 d1 rx
 obtain ⟨bs,r2,c2,p2⟩ := zb3 I r 20 ty y u dy e2 d2 ry
 exact SeqAt.compareNe_reads r1 r2 c1 c2 (by have := hr.un; omega) ⟨.bl _,H,I,rfl,q⟩
theorem qeq (hr : Room k X.A) (ha : QE X a ta) (hb : QE X b tb) : QE X (.Compare a [.Eq] [b] pos) (wOp (wD PyData.eqv) ta tb) := qcmp (op_eqD hr) lD ha hb
theorem qteq (hr : Room k X.A) (ha : QE X a ta) (hb : QE X b tb) : QT X (.Compare a [.Eq] [b] pos) (zcf (wOp (wD PyData.eqv) ta tb)) := qtcmp (op_eqD hr) lD ha hb
theorem qtne (hr : Room k X.A) (ha : QE X a ta) (hb : QE X b tb) : QT X (.Compare a [.NotEq] [b] pos) (zcf (wOp (wD fun a b => !PyData.eqv a b) ta tb)) := qtcmp (op_neD hr) lD ha hb
def inSeq (x y : T) (G : Gp) : Option Bool := match zbm y G,toD G 20 x with
 | some ts,some d => (allD (toD G 20) ts).map fun ds => ds.any fun z => z.eqv d
 | _,_ => none
def wInS (f : Bool -> Bool) : R3 := fun x y G Q => match inSeq x y G with
 | some k => Q (.bl (f k)) G
 | none => False
def rInS (K : KW) (f : Bool -> Bool) : R2 := fun x y H Q => ∃ G tx ty k,Den K H x tx /\ Den K H y ty /\ HR K H G /\ inSeq tx ty G = some k /\ Q (.bl (f k)) H
theorem lInS {K : KW} {f : Bool -> Bool} : LR K (wInS f) (rInS K f) := by
 intro H G x y x3 y3 Q Q3 dx dy r h i
 unfold wInS at h
 split at h
 ·rename_i k e
  exact ⟨G,x3,y3,k,dx,dy,r,e,i _ G _ H h (Kp.refl _) (.bl _) r⟩
 ·exact h.elim
open Classical in
theorem any_of_reads {h : Heap} {d : PyData} : ∀ {us : List Value} {ds : List PyData} {as : List Addr},ReadsAll h us ds as -> PyData.canLayAll0 ds = true ->
  (us.any fun u => decide (∃ z as,Reads h u z as /\ z.canLay0 = true /\ z.eqv d = true)) = ds.any fun z => z.eqv d
 | _,_,_,.nil,_ => rfl
 | u :: us,z :: ds,_,.cons r1 r2,hc => by
  have hc' : (PyData.canLay0 z && PyData.canLayAll0 ds) = true := hc
  obtain ⟨c1,c2⟩ := Bool.and_eq_true_iff.mp hc'
  rw [List.any_cons,List.any_cons,any_of_reads r2 c2]
  congr 1
  rw [Bool.eq_iff_iff,decide_eq_true_iff]
  constructor
  ·rintro ⟨z',as',r',c',e'⟩
   have := SeqAt.Reads.unique z z' u _ _ c1 r1 r'
   subst this; exact e'
  ·intro e; exact ⟨z,_,r1,c1,e⟩
theorem mem_readsAll {h : Heap} : ∀ {us : List Value} {ds : List PyData} {as : List Addr} {n : Nat} {u : Value},ReadsAll h us ds as -> PyData.canLayAll0 ds = true -> PyData.depthAll ds <= n -> u ∈ us -> ∃ z bs,Reads h u z bs /\ z.canLay0 = true /\ z.depth <= n
 | _,_,_,_,_,.nil,_,_,hm => by simp at hm
 | u' :: us,z :: ds,_,n,u,.cons r1 r2,hc,hd,hm => by
  have hc' : (PyData.canLay0 z && PyData.canLayAll0 ds) = true := hc
  obtain ⟨c1,c2⟩ := Bool.and_eq_true_iff.mp hc'
  have hd' : max (PyData.depth z) (PyData.depthAll ds) <= n := hd
  rcases List.mem_cons.mp hm with e | hm
  ·subst e; exact ⟨z,_,r1,c1,by omega⟩
  ·exact mem_readsAll r2 c2 (by omega) hm
open Classical in
theorem op_inS (hr : Room k X.A) : OpR X (compareOp .In) (rInS X.kw id) := by
 intro pins s σ H x y v u Q I rx ry h
 obtain ⟨G,tx,ty,kk,d1,d2,r,e,q⟩ := h
 unfold inSeq at e
 split at e
 ·rename_i ts d e1 e2
  cases e3 : allD (toD G 20) ts with
  | none => rw [e3] at e; cases e
  | some ds =>
   rw [e3] at e
   have e : (ds.any fun z => z.eqv d) = kk := Option.some.inj e
   subst e
   obtain ⟨as,r1,c1,p1⟩ := zb3 I r 20 tx x v d e2 d1 rx
   obtain ⟨p,xs,e4,sq,dd⟩ := seqOf_den d2 r e1
   subst e4
   cases ry
   have at_ : ∀ (its : List Value),zav xs its -> (∀ w',w' ∈ its.toArray -> SeqAt.EqAt X.A.in1 s w' v (decide (∃ z as,Reads s.heap w' z as /\ z.canLay0 = true /\ z.eqv d = true))) /\ (its.toArray.any fun w' => decide (∃ z as,Reads s.heap w' z as /\ z.canLay0 = true /\ z.eqv d = true)) = ds.any fun z => z.eqv d := fun its rv => by
    obtain ⟨bs,ra,ca,pa⟩ := zcc (zb3 I r 20) e3 dd rv
    refine ⟨fun w' hm => ?_,?_⟩
    ·obtain ⟨z,cs,rz,cz,pz⟩ := mem_readsAll ra ca pa (by simpa using hm)
     have e5 : decide (∃ z as,Reads s.heap w' z as /\ z.canLay0 = true /\ z.eqv d = true) = z.eqv d := by
      rw [Bool.eq_iff_iff,decide_eq_true_iff]
      constructor
      ·rintro ⟨z',as',r',c',e'⟩
       have := SeqAt.Reads.unique z z' w' _ _ cz rz r'
       subst this; exact e'
      ·intro e; exact ⟨z,_,rz,cz,e⟩
     rw [e5]
     exact SeqAt.eqAt_reads z d X.A.in1 s w' v cs as rz r1 cz c1 (by have := hr.un; show X.A.units + 1 + _ < _; omega)
    ·rw [<- any_of_reads ra ca]; simp
   rcases sq with sq | sq
   ·obtain ⟨its,rv,pl,_⟩ := I.list sq
    obtain ⟨h1,h2⟩ := at_ its rv
    exact SeqAt.in_listAt _ pl.isList h1 ⟨.bl _,H,I,by rw [h2]; rfl,q⟩
   ·obtain ⟨its,rv,pl,_⟩ := I.tuple sq
    obtain ⟨h1,h2⟩ := at_ its rv
    exact SeqAt.in_tupleAt _ pl h1 ⟨.bl _,H,I,by rw [h2]; rfl,q⟩
 ·cases e
open Classical in
def truT (x : T) (G : Gp) : Option Bool := match x with
 | .non => some false
 | .bl b => some b
 | .int i => some (i != 0)
 | .tup ts => some (!ts.isEmpty)
 | .fro ts => some (!ts.isEmpty)
 | .ref p => (match G p with
  | some (.lst ts) => some (!ts.isEmpty)
  | some (.dK ts) => some (!ts.isEmpty)
  | _ => none)
 | _ => none
def wTru (ta : TE3) : TT3 := fun τ G Q => ta τ G fun x G1 => match truT x G1 with
 | some b => Q b G1
 | none => False
theorem Dens.isEmpty {K : KW} {H : Hp} {xs : List V} {ts : List T} (d : Dens K H xs ts) : xs.isEmpty = ts.isEmpty := by cases d <;> rfl
theorem qtru (ha : QE X a ta) (he : ∀ whole,isTrue a X.env whole = (do let v <- whole; standAt a.pos; holding [v] (truthy v)) := by intro _; rfl) : QT X a (wTru ta) := (pt_truth ha he).imp fun σ H Q ⟨τ,G,Q3,s,r,h,i⟩ => by
 refine ⟨τ,G,_,s,r,h,fun x G1 v H1 h1 k1 d1 r1 => ?_⟩
 split at h1
 ·rename_i b e
  refine ⟨b,?_,i b G1 H1 h1 k1 r1⟩
  cases d1 with
  | non => cases e; exact rfl
  | bl c => cases e; exact rfl
  | int j => cases e; exact rfl
  | str x => cases e
  | ty n => cases e
  | tup q ds => cases e; exact .inr (.inl ⟨_,q,by rw [ds.isEmpty]⟩)
  | fro q ds => cases e; exact .inl ⟨_,q.sq,by rw [ds.isEmpty]⟩
  | ref p =>
   simp only [truT] at e
   split at e
   ·rename_i ts e1; cases e
    obtain ⟨xs,e2,ds⟩ := r1 p _ e1
    exact .inl ⟨_,SqL.of e2,by rw [ds.isEmpty]⟩
   ·rename_i ts e1; cases e
    obtain ⟨xs,e2,ds⟩ := r1 p _ e1
    refine .inr (.inr ⟨_,e2,?_⟩)
    cases ds <;> rfl
   ·cases e
 ·exact h1.elim
def mx3 : List T -> Gp -> VK3 -> Prop := fun ts G Q => match ts with
 | [.int i,.int j] => Q (.int (if j > i then j else i)) G
 | _ => False
def mn3 : List T -> Gp -> VK3 -> Prop := fun ts G Q => match ts with
 | [.int i,.int j] => Q (.int (if j < i then j else i)) G
 | _ => False
theorem qmax2 (hm : X.mg "max" = none) (ha : QA X (e :: es) t) (hg : Gl X "max" := by rfl) (he : starEach (e :: es) X.env = (false,eval e X.env) :: starEach es X.env := by rfl) (hpl : (backTo pos (starEach es X.env)).any (·.1) = false := by rfl) (hc : X.calm = true := by rfl) :
  QE X (.Call (.Name "max" p) (e :: es) [] pos) (wCB mx3 t) := qcallB (call_max2 hc) (fun H G xs ts Q Q3 d r h i => by
 unfold mx3 at h
 split at h
 ·cases d with
  | cons d1 d2 => cases d2 with
   | cons d3 d4 => cases d4; cases d1; cases d3; exact ⟨_,_,rfl,i _ G _ H h (Kp.refl _) (.int _) r⟩
 ·exact h.elim) hm boot_max ha hg (by decide) (by decide) he hpl
def lst3 : List T -> Gp -> VK3 -> Prop := fun ts G Q => match ts with
 | [x] => (match zbm x G with
  | some us => ∀ p,G p = none -> Q (.ref p) (updG G p (.lst us))
  | none => False)
 | _ => False
theorem qlist (hm : X.mg "list" = none) (ha : QA X (e :: es) t) (hg : Gl X "list" := by rfl) (he : starEach (e :: es) X.env = (false,eval e X.env) :: starEach es X.env := by rfl) (hpl : (backTo pos (starEach es X.env)).any (·.1) = false := by rfl) :
  QE X (.Call (.Name "list" p) (e :: es) [] pos) (wCB lst3 t) := qcallTy call_list_of (fun H G xs ts Q Q3 d r h i => by
 unfold lst3 at h
 split at h
 ·cases d with
  | cons d1 d2 =>
   cases d2
   split at h
   ·rename_i us e
    obtain ⟨p,ys,e1,q,ds⟩ := seqOf_den d1 r e
    subst e1
    exact ⟨p,ys,rfl,q,fun l hl => i _ _ _ _ (h l (r.free hl)) (Kp.new hl) (.ref l) (r.new (o := .lst us) hl ⟨ys,zag,ds.mono (Kp.new hl)⟩)⟩
   ·exact h.elim
 ·exact h.elim) hm boot_list ha hg (by decide) (by decide) he hpl
def int3 : List T -> Gp -> VK3 -> Prop := fun ts G Q => match ts with
 | [.int i] => Q (.int i) G
 | [.bl b] => Q (.int (if b then 1 else 0)) G
 | _ => False
theorem qint1 (hm : X.mg "int" = none) (ha : QA X (e :: es) t) (hg : Gl X "int" := by rfl) (he : starEach (e :: es) X.env = (false,eval e X.env) :: starEach es X.env := by rfl) (hpl : (backTo pos (starEach es X.env)).any (·.1) = false := by rfl) :
  QE X (.Call (.Name "int" p) (e :: es) [] pos) (wCB int3 t) := qcallTy call_int1 (fun H G xs ts Q Q3 d r h i => by
 unfold int3 at h
 split at h
 ·cases d with
  | cons d1 d2 => cases d2; cases d1; exact .inl ⟨_,rfl,i _ G _ H h (Kp.refl _) (.int _) r⟩
 ·cases d with
  | cons d1 d2 => cases d2; cases d1; exact .inr ⟨_,rfl,i _ G _ H h (Kp.refl _) (.int _) r⟩
 ·exact h.elim) hm boot_int ha hg (by decide) (by decide) he hpl
def app3 (x : T) (ts : List T) (G : Gp) (Q : VK3) : Prop := match x,ts with
 | .ref p,[y] => (match G p with
  | some (.lst us) => us.length <= 1000000 /\ Q .non (updG G p (.lst (us ++ [y])))
  | _ => False)
 | _,_ => False
def onLst (x : T) (G : Gp) (Q : Prop) : Prop := match x with
 | .ref p => (match G p with
  | some (.lst _) => Q
  | _ => False)
 | _ => False
def wApp (ta : TE3) (t : TA3) : TE3 := fun τ G Q => ta τ G fun x G1 => onLst x G1 (t τ G1 fun ts G2 => app3 x ts G2 Q)
theorem qappend (ho : QE X o ta) (ha : QA X (e :: es) t) (hbase : attributeBase o "append" X.env (eval o X.env) = eval o X.env := by rfl)
  (hfew : ((backTo pos (starEach (e :: es) X.env)).all (fun x => !x.1) && (backToKw pos (keywordEach [] X.env)).all (fun x => x.1.isSome)
   && decide ((e :: es).length + ([] : List Keyword).length + (if ([] : List Keyword).isEmpty then 0 else 1) < 30)) = true := by rfl)
  (hline : (apos.endLine == pos.line) = true := by rfl) (hs : starEach (e :: es) X.env = (false,eval e X.env) :: starEach es X.env := by rfl) (hplain : (backTo pos (starEach es X.env)).any (·.1) = false := by rfl) :
  QE X (.Call (.Attribute o "append" apos) (e :: es) [] pos) (wApp ta t) :=
 (pe_bm PySem.F.plainAttrs_list PySem.F.slot_list_append PySem.F.type_list_append mt_append ho ha hbase hfew hline hs hplain).imp fun σ H Q ⟨τ,G,Q3,s,r,h,i⟩ => by
  refine ⟨τ,G,_,s,r,h,fun x G1 v H1 h1 k1 d1 r1 => ?_⟩
  cases d1 with
  | ref p =>
   simp only [onLst] at h1
   split at h1
   ·rename_i us e1
    obtain ⟨xs,e2,ds⟩ := r1 p _ e1
    refine ⟨.inl ⟨rfl,_,SqL.of e2⟩,τ,G1,_,s.mono k1,r1,h1,fun ts G2 vs H2 h2 k2 d2 r2 => ?_⟩
    simp only [app3] at h2
    cases d2 with
    | nil => exact h2.elim
    | cons d3 d4 =>
     cases d4 with
     | cons d5 d6 => exact h2.elim
     | nil =>
      simp only at h2
      split at h2
      ·rename_i us' e5
       obtain ⟨ys,e6,ds6⟩ := r2 p _ e5
       have km : ∀ z,Kp H2 (upd H2 p (.lst z)) := fun z => Kp.mut (by rw [e6]; trivial)
       refine ⟨p,ys,_,rfl,rfl,e6,?_,i _ _ _ _ h2.2 ((k1.trans k2).trans (km _)) .non (r2.put e5 ⟨_,zag,(ds6.append (.cons d3 .nil)).mono (km _)⟩)⟩
       have hl : (1000000 : Nat) < sizeLine := by rw [sizeLine_eq]; decide
       rw [ds6.length]
       exact Nat.lt_of_le_of_lt h2.1 hl
      ·exact h2.elim
   ·exact h1.elim
  | _ => exact False.elim h1
end
end L3
set_option Elab.async false
set_option linter.all false
set_option maxRecDepth 100000
set_option maxHeartbeats 4000000
namespace L3
open PySem PySem.Spec PyProof.Rows L2
def blkChk (scope : Scope) (N : List Str) (sel : List (Option Nat)) (oN : List Str) (osc : Scope) : Bool :=
 scope.kind == .function && scope.names.all (fun x => x.2 != .local || scope.names.lookup x.1 == some .local) && scope.names.all (fun x => x.2 != .cell) &&
 scope.names.all (fun x => x.2 != .free || (osc.names.lookup x.1 == some .cell || osc.names.lookup x.1 == some .free)) && sel.length == N.length &&
 (List.zip sel N).all (fun p => match p.1 with
  | none => true
  | some j => oN[j]? == some p.2 && scope.names.lookup p.2 == some .free)
theorem blkOk {X : Cx} {scope : Scope} {N : List Str} {sel : List (Option Nat)} {oN : List Str} {osc : Scope} (hN : X.N = oN) (hsc : X.env.scope = osc) (c : blkChk scope N sel oN osc = true) : BlkOk X scope N sel := by
 simp only [blkChk,Bool.and_eq_true,List.all_eq_true] at c
 obtain ⟨⟨⟨⟨⟨c1,c2⟩,c3⟩,c4⟩,c5⟩,c6⟩ := c
 have kk : ∀ x,X.env.kindOf x = osc.names.lookup x := fun x => by rw [<- hsc]; rfl
 refine ⟨by simpa using c1,fun x hx hl => ?_,fun x hx hl => ?_,fun x hx hl => ?_,by simpa using c5,fun i j x h1 h2 => ?_⟩
 ·have := c2 x hx; simpa [hl] using this
 ·have := c3 x hx; simp [hl] at this
 ·have := c4 x hx; rw [kk]; simpa [hl] using this
 ·have hz : (some j,x) ∈ List.zip sel N := by
   rw [List.mem_iff_getElem?]
   exact ⟨i,by rw [List.getElem?_zip_eq_some]; exact ⟨h1,h2⟩⟩
  have := c6 _ hz
  simp only [Bool.and_eq_true,beq_iff_eq] at this
  rw [hN]; exact this
def zbS (P : Program) (w : World) (K : PySem.W.Frag) (mg : Str -> Option Value) (base : Heap) (k : Nat) (x : Str) (ps : List Str) (sp : Sp3) : Prop :=
 ∃ f fd,FOk P w K mg base k f fd ps sp /\ mg x = some (.ref f) /\ PySem.W.keepIn K (.ref f) = true /\ Binds K fd ps []
def zbD (P : Program) (w : World) (K : PySem.W.Frag) (mg : Str -> Option Value) (base : Heap) (k : Nat) (C : Addr) (m : Str) (ps : List Str) (sp : Sp3) : Prop :=
 ∃ f fd,FOk P w K mg base k f fd ps sp /\ Cls K C /\ Meth K C m f /\ Binds K fd ps []
def MkAt (P : Program) (w : World) (K : PySem.W.Frag) (mg : Str -> Option Value) (base : Heap) (k : Nat) (x : Str) (C : Addr) (ps : List Str) (sp : Sp3) : Prop :=
 ∃ f fd,FOk P w K mg base k f fd ps sp /\ mg x = some (.ref C) /\ Mk K C f /\ Binds K fd ps []
theorem zbS.mono {P : Program} {w : World} {K : PySem.W.Frag} {mg : Str -> Option Value} {base : Heap} {j k : Nat} {x : Str} {ps : List Str} {sp : Sp3} (F : zbS P w K mg base j x ps sp) (h : j <= k) : zbS P w K mg base k x ps sp :=
 let ⟨f,fd,F,r⟩ := F; ⟨f,fd,FnOk.mono F h,r⟩
theorem zbD.mono {P : Program} {w : World} {K : PySem.W.Frag} {mg : Str -> Option Value} {base : Heap} {j k : Nat} {C : Addr} {m : Str} {ps : List Str} {sp : Sp3} (F : zbD P w K mg base j C m ps sp) (h : j <= k) : zbD P w K mg base k C m ps sp :=
 let ⟨f,fd,F,r⟩ := F; ⟨f,fd,FnOk.mono F h,r⟩
theorem MkAt.mono {P : Program} {w : World} {K : PySem.W.Frag} {mg : Str -> Option Value} {base : Heap} {j k : Nat} {x : Str} {C : Addr} {ps : List Str} {sp : Sp3} (F : MkAt P w K mg base j x C ps sp) (h : j <= k) : MkAt P w K mg base k x C ps sp :=
 let ⟨f,fd,F,r⟩ := F; ⟨f,fd,FnOk.mono F h,r⟩
section
variable {X : Cx} {e a b c o : Expr} {es : List Expr} {pos apos p : Pos} {ta tb tv : TE3} {t : TA3} {k : Nat} {C : Addr} {ps : List Str} {sp : Sp3} {x m : Str}
theorem zaP (F : zbS X.prog X.w X.K X.mg X.base k x ps sp) (hr : Room k X.A) (ha : QA X (e :: es) t) (hg : Gl X x := by rfl) (hdb : (x == ("__debug__" : Str)) = false := by decide)
  (he : starEach (e :: es) X.env = (false,eval e X.env) :: starEach es X.env := by rfl) (hpl : (backTo pos (starEach es X.env)).any (·.1) = false := by rfl) :
  QE X (.Call (.Name x p) (e :: es) [] pos) (wCall sp t) := by
 obtain ⟨f,fd,F,hm,hk,hb⟩ := F
 exact qcall F hr hm hk hb ha hg hdb he hpl
theorem cmeth {pl : Sem Bool} (he : QE X o ta) (F : zbD X.prog X.w X.K X.mg X.base k C m ps sp) (hr : Room k X.A) (ha : QA X (e :: es) t)
  (hst : starEach (e :: es) X.env = (false,eval e X.env) :: starEach es X.env := by rfl) (hpl : (backTo pos (starEach es X.env)).any (·.1) = false := by rfl)
  (ht : eval (.Call (.Attribute o m apos) (e :: es) [] pos) X.env = (do
   let ov <- eval o X.env
   standAt apos.atName
   let (f,first) <- holding [ov] (getMethod ov m pl)
   callWith pos f first (backTo pos (starEach (e :: es) X.env)) (backToKw pos (keywordEach [] X.env))) := by rfl) :
  QE X (.Call (.Attribute o m apos) (e :: es) [] pos) (wMeth C m sp ta t) := by
 obtain ⟨f,fd,F,c,hm,hb⟩ := F
 exact qmeth he c hm F hr hb ha hst hpl ht
theorem cmeth0 {pl : Sem Bool} (he : QE X o ta) (F : zbD X.prog X.w X.K X.mg X.base k C m ps sp) (hr : Room k X.A)
  (ht : eval (.Call (.Attribute o m apos) [] [] pos) X.env = (do
   let ov <- eval o X.env
   standAt apos.atName
   let (f,first) <- holding [ov] (getMethod ov m pl)
   callWith pos f first (backTo pos (starEach [] X.env)) (backToKw pos (keywordEach [] X.env))) := by rfl) :
  QE X (.Call (.Attribute o m apos) [] [] pos) (wMeth0 C m sp ta) := by
 obtain ⟨f,fd,F,c,hm,hb⟩ := F
 exact qmeth0 he c hm F hr hb ht
theorem cmake (F : MkAt X.prog X.w X.K X.mg X.base k x C ps sp) (hr : Room (k + 1) X.A) (ha : QA X (e :: es) t) (hg : Gl X x := by rfl) (hdb : (x == ("__debug__" : Str)) = false := by decide)
  (he : starEach (e :: es) X.env = (false,eval e X.env) :: starEach es X.env := by rfl) (hpl : (backTo pos (starEach es X.env)).any (·.1) = false := by rfl) :
  QE X (.Call (.Name x p) (e :: es) [] pos) (wMake C sp t) := by
 obtain ⟨f,fd,F,hm,M,hb⟩ := F
 exact qmake M F hr hm hb ha hg hdb he hpl
theorem cmake0 (F : MkAt X.prog X.w X.K X.mg X.base k x C ps sp) (hr : Room (k + 1) X.A) (hg : Gl X x := by rfl) (hdb : (x == ("__debug__" : Str)) = false := by decide) :
  QE X (.Call (.Name x p) [] [] pos) (wMake C sp wNil) := by
 obtain ⟨f,fd,F,hm,M,hb⟩ := F
 exact qmake0 M F hr hm hb hg hdb
end
end L3
set_option Elab.async false
set_option linter.all false
set_option maxRecDepth 100000
set_option maxHeartbeats 4000000
namespace L3
open PySem PySem.Spec PyProof.Rows L2
def kT : Key -> T
 | .inl i => .int i
 | .inr x => .str x
def keyOf : T -> Option Key
 | .int i => some (.inl i)
 | .str x => some (.inr x)
 | _ => none
def a0Of : T -> Option A0
 | .non => some .non
 | .int i => some (.int i)
 | .str x => some (.str x)
 | _ => none
def allA0 : List T -> Option (List A0)
 | [] => some []
 | t :: r => match a0Of t,allA0 r with
  | some a,some l => some (a :: l)
  | _,_ => none
def a1Of : T -> Option A1
 | .tup ts => (allA0 ts).map .tup
 | .non => some (.at .non)
 | .int i => some (.at (.int i))
 | .str x => some (.at (.str x))
 | _ => none
def allA1 : List T -> Option LK
 | [] => some []
 | t :: r => match a1Of t,allA1 r with
  | some a,some l => some (a :: l)
  | _,_ => none
def lkOf : T -> Option LK
 | .tup ts => allA1 ts
 | _ => none
theorem keyOf_eq {t : T} {k : Key} (h : keyOf t = some k) : t = kT k := by
 cases t <;> simp only [keyOf] at h
 all_goals first | (cases h; rfl) | cases h
theorem a0Of_eq {t : T} {a : A0} (h : a0Of t = some a) : t = a0T a := by
 cases t <;> simp only [a0Of] at h
 all_goals first | (cases h; rfl) | cases h
theorem allA0_eq : ∀ {ts : List T} {l : List A0},allA0 ts = some l -> ts = l.map a0T
 | [],l,h => by cases h; rfl
 | t :: r,l,h => by
  unfold allA0 at h
  split at h
  ·rename_i a m e1 e2; cases h; rw [a0Of_eq e1,allA0_eq e2]; rfl
  ·cases h
theorem a1Of_eq {t : T} {a : A1} (h : a1Of t = some a) : t = a1T a := by
 cases t <;> simp only [a1Of] at h
 all_goals first | (cases h; rfl) | skip
 all_goals first | (cases h; done) | skip
 rename_i ts
 cases e : allA0 ts with
 | none => rw [e] at h; cases h
 | some l => rw [e] at h; cases h; rw [allA0_eq e]; rfl
theorem allA1_eq : ∀ {ts : List T} {l : LK},allA1 ts = some l -> ts = l.map a1T
 | [],l,h => by cases h; rfl
 | t :: r,l,h => by
  unfold allA1 at h
  split at h
  ·rename_i a m e1 e2; cases h; rw [a1Of_eq e1,allA1_eq e2]; rfl
  ·cases h
theorem lkOf_eq {t : T} {k : LK} (h : lkOf t = some k) : t = lkT k := by
 cases t <;> simp only [lkOf] at h
 all_goals first | (cases h; done) | skip
 rw [allA1_eq h]; rfl
theorem allA0_map : ∀ l : List A0,allA0 (l.map a0T) = some l
 | [] => rfl
 | a :: r => by
  have : a0Of (a0T a) = some a := by cases a <;> rfl
  simp only [List.map_cons,allA0,this,allA0_map r]
theorem allA1_map : ∀ l : LK,allA1 (l.map a1T) = some l
 | [] => rfl
 | a :: r => by
  have : a1Of (a1T a) = some a := by
   cases a with
   | «at» a => cases a <;> rfl
   | tup l => simp only [a1T,a1Of,allA0_map]; rfl
  simp only [List.map_cons,allA1,this,allA1_map r]
theorem lkOf_lkT (k : LK) : lkOf (lkT k) = some k := allA1_map k
section
variable {X : Cx} {pins : List (Addr × Obj)} {σ : L2.St} {H : Hp} {s : Shared} {G : Gp}
theorem den_a0 {a : A0} {v : V} {u : Value} (d : Den X.kw H v (a0T a)) (r : zaG v u) : a.val u := by
 cases a with
 | non => cases d; exact r
 | int i => cases d; exact r
 | str x => cases d; exact r
theorem dens_a0 : ∀ {l : List A0} {vs : List V} {us : List Value},Dens X.kw H vs (l.map a0T) -> zav vs us -> Paired A0.val l us
 | [],_,_,.nil,.nil => .nil
 | _ :: _,_,_,.cons d dr,.cons r rr => .cons (den_a0 d r) (dens_a0 dr rr)
theorem den_a1 (I : Inv X pins σ H s) {a : A1} {v : V} {u : Value} (d : Den X.kw H v (a1T a)) (r : zaG v u) : a.val s.heap u := by
 cases a with
 | «at» a => exact den_a0 d r
 | tup l =>
  cases d with
  | tup q ds =>
   obtain ⟨its,rv,⟨o,e,c,n,dd⟩,_⟩ := I.tuple q
   cases r
   exact ⟨_,its.toArray,rfl,⟨o,n,e,c,dd⟩,by simpa using dens_a0 ds rv⟩
theorem dens_a1 (I : Inv X pins σ H s) : ∀ {l : LK} {vs : List V} {us : List Value},Dens X.kw H vs (l.map a1T) -> zav vs us -> Paired (A1.val s.heap) l us
 | [],_,_,.nil,.nil => .nil
 | _ :: _,_,_,.cons d dr,.cons r rr => .cons (den_a1 I d r) (dens_a1 I dr rr)
theorem den_lk (I : Inv X pins σ H s) {k : LK} {b : Addr} (d : Den X.kw H (.ref b) (lkT k)) : isLK s.heap k b := by
 generalize e : lkT k = t at d
 cases d with
 | ref => cases e
 | fro => cases e
 | tup q ds =>
  cases e
  obtain ⟨its,rv,⟨o,e,c,n,dd⟩,_⟩ := I.tuple q
  exact ⟨its.toArray,⟨o,n,e,c,dd⟩,by simpa using dens_a1 I ds rv⟩
end
section
variable {κ : Type} [DecidableEq κ]
def putKT (kvs : List (κ × T)) (k : κ) (v : T) : List (κ × T) := if (kvs.any fun kv => decide (kv.1 = k)) = true then kvs.map (fun kv => if kv.1 = k then (kv.1,v) else kv) else kvs ++ [(k,v)]
def valKT (kvs : List (κ × T)) (k : κ) : Option T := (kvs.find? fun kv => decide (kv.1 = k)).map (·.2)
theorem putKT_new {kvs : List (κ × T)} {k : κ} {v : T} (h : k ∉ kvs.map (·.1)) : putKT kvs k v = kvs ++ [(k,v)] := by
 unfold putKT
 rw [if_neg]
 intro hany
 obtain ⟨x,hx,e⟩ := List.any_eq_true.mp hany
 exact h (List.mem_map.mpr ⟨x,hx,of_decide_eq_true e⟩)
theorem putKT_old {kvs : List (κ × T)} {k : κ} {v : T} (h : k ∈ kvs.map (·.1)) : putKT kvs k v = kvs.map (fun kv => if kv.1 = k then (kv.1,v) else kv) := by
 unfold putKT
 rw [if_pos]
 obtain ⟨x,hx,e⟩ := List.mem_map.mp h
 exact List.any_eq_true.mpr ⟨x,hx,decide_eq_true e⟩
end
section
variable {K : KW} {H H' : Hp}
theorem Ents.any {k : Key} : ∀ {xs : List (Key × V)} {kvs : List (Key × T)},Ents K H xs kvs -> (xs.any fun kv => decide (kv.1 = k)) = kvs.any fun kv => decide (kv.1 = k)
 | _,_,.nil => rfl
 | _,_,.cons ⟨e,_⟩ r => by rw [List.any_cons,List.any_cons,Ents.any r,e]
theorem Ents.repl {k : Key} {v : V} {t : T} (d : Den K H v t) : ∀ {xs : List (Key × V)} {kvs : List (Key × T)},Ents K H xs kvs -> Ents K H (xs.map fun kv => if kv.1 = k then (kv.1,v) else kv) (kvs.map fun kv => if kv.1 = k then (kv.1,t) else kv)
 | _,_,.nil => .nil
 | (a,x) :: _,(b,y) :: _,.cons ⟨e,d'⟩ r => by
  simp only at e d'
  subst e
  refine .cons ?_ (Ents.repl d r)
  by_cases z : a = k
  ·simp only [z,if_true]; exact ⟨trivial,d⟩
  ·simp only [z,if_false]; exact ⟨trivial,d'⟩
theorem Paired.snoc' {α β : Type} {F : α -> β -> Prop} {a : α} {b : β} : ∀ {l : List α} {r : List β},Paired F l r -> F a b -> Paired F (l ++ [a]) (r ++ [b])
 | _,_,.nil,h => .cons h .nil
 | _,_,.cons p q,h => .cons p (Paired.snoc' q h)
theorem Ents.put {k : Key} {v : V} {t : T} (d : Den K H v t) {xs : List (Key × V)} {kvs : List (Key × T)} (r : Ents K H xs kvs) : Ents K H (putK xs k v) (putKT kvs k t) := by
 unfold putK putKT
 rw [Ents.any r]
 split
 ·exact Ents.repl d r
 ·exact Paired.snoc' r ⟨rfl,d⟩
theorem Ents.val {k : Key} : ∀ {xs : List (Key × V)} {kvs : List (Key × T)} {t : T},Ents K H xs kvs -> valKT kvs k = some t -> ∃ v,valV xs k = some v /\ Den K H v t
 | _,_,_,.nil,e => by cases e
 | (a,x) :: xs,(b,y) :: kvs,t,.cons ⟨e1,d⟩ r,e => by
  simp only at e1 d
  subst e1
  unfold valKT at e
  unfold valV
  rw [List.find?_cons] at e ⊢
  by_cases z : a = k
  ·simp only [z,decide_true] at e ⊢
   cases e
   exact ⟨x,rfl,d⟩
  ·simp only [z,decide_false] at e ⊢
   exact Ents.val r e
theorem Ents.valN {k : Key} : ∀ {xs : List (Key × V)} {kvs : List (Key × T)},Ents K H xs kvs -> valKT kvs k = none -> valV xs k = none
 | _,_,.nil,e => rfl
 | (a,x) :: xs,(b,y) :: kvs,.cons ⟨e1,d⟩ r,e => by
  simp only at e1 d
  subst e1
  unfold valKT at e
  unfold valV
  rw [List.find?_cons] at e ⊢
  by_cases z : a = k
  ·simp only [z,decide_true] at e; cases e
  ·simp only [z,decide_false] at e ⊢
   exact Ents.valN r e
theorem EntT.keys : ∀ {kvs : List (LK × T)} {xs : List (LK × Addr × Value)},EntT K H kvs xs -> kvs.map (·.1) = xs.map (·.1)
 | _,_,.nil => rfl
 | _,_,.cons ⟨e,_⟩ r => by rw [List.map_cons,List.map_cons,EntT.keys r,e]
theorem EntT.repl {k : LK} {v : V} {u : Value} {t : T} (d : Den K H v t) (rv : zaG v u) : ∀ {kvs : List (LK × T)} {xs : List (LK × Addr × Value)},EntT K H kvs xs -> EntT K H (kvs.map fun kv => if kv.1 = k then (kv.1,t) else kv) (xs.map (putAt k u))
 | _,_,.nil => .nil
 | (a,y) :: _,(b,c,z) :: _,.cons ⟨e,d1,d2⟩ r => by
  simp only at e
  subst e
  refine .cons ?_ (EntT.repl d rv r)
  unfold putAt
  by_cases q : a = k
  ·simp only [q,if_true]
   exact ⟨trivial,q ▸ d1,v,rv,d⟩
  ·simp only [q,if_false]
   exact ⟨trivial,d1,d2⟩
theorem atKey_isSome {k : LK} : ∀ {xs : List (LK × Addr × Value)},(atKey xs k).isSome = true ↔ k ∈ xs.map (·.1)
 | [] => by simp [atKey]
 | x :: xs => by
  have ih := @atKey_isSome k xs
  unfold atKey at ih ⊢
  rw [List.find?_cons]
  by_cases q : x.1 = k
  ·simp [q]
  ·simp only [q,decide_false,List.map_cons,List.mem_cons]
   rw [ih]
   constructor
   ·exact .inr
   ·rintro (h | h)
    ·exact absurd h.symm q
    ·exact h
theorem EntT.put {k : LK} {b : Addr} {v : V} {u : Value} {t : T} (dk : Den K H (.ref b) (lkT k)) (d : Den K H v t) (rv : zaG v u) {kvs : List (LK × T)} {xs : List (LK × Addr × Value)} (r : EntT K H kvs xs) : EntT K H (putKT kvs k t) (storedH xs k b u) := by
 unfold storedH
 by_cases q : k ∈ kvs.map (·.1)
 ·rw [putKT_old q,if_pos (atKey_isSome.mpr (r.keys ▸ q))]
  exact EntT.repl d rv r
 ·rw [putKT_new q,if_neg (fun z => q (r.keys ▸ atKey_isSome.mp z))]
  exact Paired.snoc' r ⟨rfl,dk,v,rv,d⟩
theorem EntT.length {kvs : List (LK × T)} {xs : List (LK × Addr × Value)} (r : EntT K H kvs xs) : kvs.length = xs.length := Paired.length r
end
def set3 (o i v : T) (G : Gp) (Q : Gp -> Prop) : Prop := match o with
 | .ref p => (match G p with
  | some (.lst ts) => (match i with
   | .int k => (match ixN ts.length k with
    | some j => Q (updG G p (.lst (ts.set j v)))
    | none => False)
   | _ => False)
  | some (.dK kvs) => (match keyOf i with
   | some k => kvs.length <= 1000000 /\ Q (updG G p (.dK (putKT kvs k v)))
   | none => (match kvs,lkOf i with
    | [],some k => okLK k = true /\ Q (updG G p (.dT [(k,v)]))
    | _,_ => False))
  | some (.dT kvs) => (match lkOf i with
   | some k => okLK k = true /\ kvs.length <= 1000000 /\ Q (updG G p (.dT (putKT kvs k v)))
   | none => False)
  | _ => False)
 | _ => False
def rSet3 (K : KW) : TSet := fun o i v H Q => ∃ G to ti tv Q3,Den K H o to /\ Den K H i ti /\ Den K H v tv /\ HR K H G /\ set3 to ti tv G Q3 /\ ∀ G' H',Q3 G' -> Kp H H' -> HR K H' G' -> Q H'
section
variable {X : Cx} {k : Nat}
theorem lk_write {pins : List (Addr × Obj)} {σ : L2.St} {H : Hp} {s : Shared} {p b : Addr} {u : Value} {kk : LK} {xs : List (LK × Addr × Value)} {E : Value -> Shared -> Prop} {Q : Unit -> Shared -> Prop} (hr : Room k X.A) (I : Inv X pins σ H s) (mu : Mut (H p))
  (raw : rawD X.prog X.w p xs s.heap) (his : ∀ x ∈ xs,isLK s.heap x.1 x.2.1) (hk : isLK s.heap kk b) (ok : okLK kk = true) (sz : xs.length < sizeLine)
  (h : ∀ s',Inv X pins σ (upd H p (.ext (rawD X.prog X.w p (storedH xs kk b u)))) s' -> Q () s') : wpAny (model X.prog X.w) X.A (setItem (.ref p) (.ref b) u) Q E s := by
 obtain ⟨nd,_,oks,nod,o,es,ep,e1,e2,e3,e4⟩ := id raw
 have hD : s.heap.DictOfH (lkKind X.prog X.w) p xs := ⟨o,es,ep,e1,e2,e3,e4,fun x hx => ⟨his x hx,oks x hx⟩,nod⟩
 refine wpAny_setItem_heap (hsz := Nat.le_of_lt sz) (knd := lkKind X.prog X.w) (show X.A.units + 1 + 4 < cLine by have := hr.un; omega) ⟨hk,ok⟩ hD fun h' hD' sb => h _ ?_
 obtain ⟨o',es',ep',f1,f2,f3,f4,f5,f6⟩ := id hD'
 refine d_write I mu sb ⟨o',f1⟩ (rawD_obj ⟨nd,?_,fun x hx => (f5 x hx).2,f6,o',es',ep',f1,f2,f3,f4⟩)
 unfold storedH
 split
 ·rw [List.length_map]; exact Nat.le_of_lt sz
 ·rw [List.length_append,List.length_singleton]; exact sz
theorem set_any (hr : Room k X.A) : PSet X (rSet3 X.kw) := by
 intro pins s σ H o i v ov iv u Q I ro ri rv h
 obtain ⟨G,to,ti,tv,Q3,d1,d2,d3,r,h,imp⟩ := h
 have hl : (1000000 : Nat) < sizeLine := by rw [sizeLine_eq]; decide
 cases d1 with
 | ref p =>
  simp only [set3] at h
  split at h
  ·rename_i ts e
   obtain ⟨xs,e1,ds⟩ := r p _ e
   cases d2 with
   | int kk =>
    simp only at h
    split at h
    ·rename_i j ej
     have km : Kp H (upd H p (.lst (xs.set j v))) := Kp.mut (by rw [e1]; trivial)
     exact set_list pins s σ H _ _ v ov iv u Q I ro ri rv ⟨p,xs,kk,j,rfl,rfl,e1,by rw [ds.length]; exact ej,imp _ _ h km (r.put e ⟨_,zag,(ds.set d3 j).mono km⟩)⟩
    ·exact h.elim
   | _ => exact False.elim h
  ·rename_i kvs e
   obtain ⟨xs,e1,ds⟩ := r p _ e
   split at h
   ·rename_i kk ek
    have e2 := keyOf_eq ek
    subst e2
    cases (show ov = Value.ref p from ro)
    have ey : i = kV kk := by cases kk <;> cases d2 <;> rfl
    have km : Kp H (upd H p (.dK (putK xs kk v))) := Kp.mut (by rw [e1]; trivial)
    have hlen : xs.length = kvs.length := Paired.length ds
    exact d_setItem (hu_of hr) I (ey ▸ DPut.k (k := kk) (v := v) e1 (by rw [hlen]; exact Nat.lt_of_le_of_lt h.1 hl)) ri rv fun s' I' => ⟨_,I',imp _ _ h.2 km (r.put e ⟨_,zag,(Ents.put d3 ds).mono km⟩)⟩
   ·split at h
    ·rename_i kk ek
     have e2 := lkOf_eq ek
     subst e2
     cases ds
     cases (show ov = Value.ref p from ro)
     obtain ⟨z,nd,vs,rel,o,es,ep,g1,g2,g3,g4,g5,g6⟩ := dk_of I.hok e1
     cases rel
     have es0 : es.toList = [] := List.length_eq_zero_iff.mp (by have := g5.length; simpa using this)
     have raw : rawD X.prog X.w p [] s.heap := ⟨nd,Nat.zero_le _,fun _ hx => by simp at hx,List.nodup_nil,o,es,ep,g1,g2,g3,by rw [es0]; rfl⟩
     generalize et : lkT kk = tk at d2
     have d2' := d2
     cases d2 with
     | tup q dd =>
      cases (show iv = Value.ref _ from ri)
      rw [<- et] at d2'
      refine lk_write hr I (by rw [e1]; trivial) raw (fun _ hx => by simp at hx) (den_lk I d2') h.1 (by rw [sizeLine_eq]; decide) fun s' I' => ?_
      have km : ∀ z,Kp H (upd H p (.ext z)) := fun z => Kp.mut (by rw [e1]; trivial)
      exact ⟨_,I',imp _ _ h.2 (km _) (r.put e ⟨_,zag,EntT.mono (km _) (EntT.put d2' d3 rv .nil)⟩)⟩
     | _ => cases et
    ·exact h.elim
  ·rename_i kvs e
   obtain ⟨xs,e1,ds⟩ := r p _ e
   split at h
   ·rename_i kk ek
    have e2 := lkOf_eq ek
    subst e2
    cases (show ov = Value.ref p from ro)
    obtain ⟨raw,_,_⟩ := I.hok p _ e1
    have his : ∀ x ∈ xs,isLK s.heap x.1 x.2.1 := by
     intro x hx
     have : ∀ {kvs : List (LK × T)} {xs : List (LK × Addr × Value)},EntT X.kw H kvs xs -> x ∈ xs -> Den X.kw H (.ref x.2.1) (lkT x.1) := by
      intro kvs xs r
      induction r with
      | nil => intro h; simp at h
      | cons p _ ih =>
       intro h
       rcases List.mem_cons.mp h with q | q
       ·subst q; exact p.2.1
       ·exact ih q
     exact den_lk I (this ds hx)
    generalize et : lkT kk = tk at d2
    have d2' := d2
    cases d2 with
    | tup q dd =>
     cases (show iv = Value.ref _ from ri)
     rw [<- et] at d2'
     refine lk_write hr I (by rw [e1]; trivial) raw his (den_lk I d2') h.1 (by rw [<- EntT.length ds]; exact Nat.lt_of_le_of_lt h.2.1 hl) fun s' I' => ?_
     have km : ∀ z,Kp H (upd H p (.ext z)) := fun z => Kp.mut (by rw [e1]; trivial)
     exact ⟨_,I',imp _ _ h.2.2 (km _) (r.put e ⟨_,zag,EntT.mono (km _) (EntT.put d2' d3 rv ds)⟩)⟩
    | _ => cases et
   ·exact h.elim
  ·exact h.elim
 | _ => exact False.elim h
end
end L3
set_option Elab.async false
set_option linter.all false
set_option maxRecDepth 100000
set_option maxHeartbeats 4000000
namespace L3
open PySem PySem.Spec PyProof.Rows L2
section
variable {X : Cx} {e a b c o i : Expr} {es : List Expr} {pos apos p : Pos} {ta tb tv to ti : TE3} {t : TA3} {k : Nat}
def hSub (to ti : TE3) : TG3 := fun v τ G Q => to τ G fun o G1 => ti τ G1 fun i G2 => set3 o i v G2 fun G3 => Q τ G3
theorem qgsub (hr : Room k X.A) (ho : QE X o to) (hi : QE X i ti) (ha : ∀ v,assign (.Subscript o i pos) X.env v = (do
   let ov <- holding [v] (eval o X.env)
   let iv <- holding [v,ov] (eval i X.env)
   standAt pos
   holding [v,ov,iv] (setItem ov iv v)
   release [v,ov,iv] []) := by intro _; rfl) : QG X (.Subscript o i pos) (hSub to ti) := (pg_sub ho hi (set_any hr) ha).imp fun v σ H Q ⟨tv,τ,G,Q3,dv,s,r,h,im⟩ => by
 refine ⟨τ,G,_,s,r,h,fun x G1 ov H1 h1 k1 d1 r1 => ⟨τ,G1,_,s.mono k1,r1,h1,fun y G2 iv H2 h2 k2 d2 r2 => ?_⟩⟩
 exact ⟨G2,x,y,tv,_,d1.mono k2,d2,dv.mono (k1.trans k2),r2,h2,fun G' H' q k3 r3 => im τ G' σ H' q ((k1.trans k2).trans k3) (s.mono ((k1.trans k2).trans k3)) r3⟩
theorem qsetix {v : Expr} {pos' : Pos} (hr : Room k X.A) (hv : QE X v tv) (ho : QE X o to) (hi : QE X i ti) (ha : ∀ v,assign (.Subscript o i pos') X.env v = (do
   let ov <- holding [v] (eval o X.env)
   let iv <- holding [v,ov] (eval i X.env)
   standAt pos'
   holding [v,ov,iv] (setItem ov iv v)
   release [v,ov,iv] []) := by intro _; rfl)
  (hs : swapsWithSole [.Subscript o i pos'] v pos.line X.env = pure false := by rfl) (hw : swappedStores [.Subscript o i pos'] v X.env = pure none := by rfl)
  (h1 : (assignEach [.Subscript o i pos'] X.env).map (·.2) = [assign (.Subscript o i pos') X.env] := by rfl) : QS X (.Assign [.Subscript o i pos'] v pos) (wAsg tv (hSub to ti)) := qasg hv (qgsub hr ho hi ha) hs hw h1
def wDNew : TE3 := fun _ G Q => ∀ p,G p = none -> Q (.ref p) (updG G p (.dK []))
theorem qdnew : QE X (.Dict [] [] pos) wDNew := pe_dnewK.imp fun σ H Q ⟨τ,G,Q3,s,r,h,im⟩ => fun p hp => im _ _ _ _ (h p (r.free hp)) (Kp.new hp) (.ref p) (r.new (o := .dK []) hp ⟨[],zag,.nil⟩)
def itemsT (x : T) (G : Gp) : Option (List T) := match x with
 | .tup ts => some ts
 | .fro ts => some ts
 | .ref p => (match G p with
  | some (.lst ts) => some ts
  | some (.dK kvs) => some (kvs.map fun kv => kT kv.1)
  | some (.dT kvs) => some (kvs.map fun kv => lkT kv.1)
  | _ => none)
 | _ => none
theorem rel_kV {kk : Key} {v : Value} (h : keyIs kk v = true) : zaG (kV kk) v := by
 rcases zaF h with ⟨i,t,rfl,rfl⟩ | ⟨x,t,rfl,rfl⟩
 ·exact ⟨_,rfl⟩
 ·exact ⟨_,rfl⟩
theorem den_kT {K : KW} {H : Hp} (kk : Key) : Den K H (kV kk) (kT kk) := by cases kk; exact .int _; exact .str _
theorem vals_keys {P : Program} {w : World} : ∀ {es : List DictEntry} {vs : List (Key × Value)} {xs : List (Key × V)},Pairs (zau P w) es vs -> KV xs vs -> zav (xs.map fun x => kV x.1) (es.map (·.key))
 | _,_,_,.nil,.nil => .nil
 | _,_,(a,x) :: xs,.cons h1 h2 r,.cons ⟨e,_⟩ q => .cons (by simp only at e; subst e; exact rel_kV h1) (vals_keys r q)
theorem dens_keys {K : KW} {H : Hp} : ∀ {xs : List (Key × V)} {kvs : List (Key × T)},Ents K H xs kvs -> Dens K H (xs.map fun x => kV x.1) (kvs.map fun kv => kT kv.1)
 | _,_,.nil => .nil
 | _,_,.cons ⟨e,_⟩ r => .cons (by dsimp only; rw [e]; exact den_kT _) (dens_keys r)
theorem vals_keysT {P : Program} {w : World} (xs : List (LK × Addr × Value)) : zav (xs.map fun x => V.ref x.2.1) ((xs.map (entryOfKey (lkKind P w))).map (·.key)) := by
 induction xs with
 | nil => exact .nil
 | cons x r ih => exact .cons rfl ih
theorem dens_keysT {K : KW} {H : Hp} : ∀ {kvs : List (LK × T)} {xs : List (LK × Addr × Value)},EntT K H kvs xs -> Dens K H (xs.map fun x => V.ref x.2.1) (kvs.map fun kv => lkT kv.1)
 | _,_,.nil => .nil
 | _,_,.cons ⟨e,d,_⟩ r => .cons (by dsimp only; rw [e]; exact d) (dens_keysT r)
def rTup3 (K : KW) : List V -> Hp -> VK -> Prop := fun xs H Q => ∃ v G x us,xs = [v] /\ Den K H v x /\ HR K H G /\ itemsT x G = some us /\ ∀ w H',Kp H H' -> Den K H' w (.tup us) -> HR K H' G -> Q w H'
theorem call_tup3 (hc : X.calm = true) : zbG X (.type "tuple") (rTup3 X.kw) := by
 intro pins s σ H xs us Q I r h
 obtain ⟨v,G,x,ts,rfl,d,hr,e,q⟩ := h
 have base : (∃ ts',zbm x G = some ts' /\ ts' = ts) -> wpAny (model X.prog X.w) X.A (call (.type "tuple") us) (EP X pins σ Q) X.xe s := by
  rintro ⟨ts',e1,rfl⟩
  obtain ⟨p,ys,e2,sq,ds⟩ := seqOf_den d hr e1
  subst e2
  refine call_tuple_of pins s σ H _ us Q I r ⟨p,ys,rfl,?_⟩
  rcases sq with sq | sq
  ·exact .inl ⟨sq,fun l hl => q _ _ (Kp.new hl) (.tup (SqT.of zag) (ds.mono (Kp.new hl))) (hr.lay hl)⟩
  ·exact .inr ⟨sq,q _ _ (Kp.refl _) (.tup sq ds) hr⟩
 cases d with
 | tup _ _ => exact base ⟨_,rfl,Option.some.inj e⟩
 | fro _ _ => exact base ⟨_,rfl,Option.some.inj e⟩
 | ref p =>
  obtain ⟨u,rfl,ru⟩ := vals1 r
  cases ru
  simp only [itemsT] at e
  split at e
  ·rename_i ts' eg; exact base ⟨ts',by simp only [zbm,eg],Option.some.inj e⟩
  ·rename_i kvs eg
   cases e
   obtain ⟨ks,e1,ds⟩ := hr p _ eg
   obtain ⟨z,nd,vs,rel,o,ees,ep,g1,g2,g3,g4,g5,g6⟩ := dk_of I.hok e1
   have hsz : ees.size = ks.length := by
    have h1 := g5.length
    have h2 : ks.length = vs.length := Paired.length rel
    rw [Array.length_toList] at h1
    omega
   exact tupD hc I nd ⟨o,g1,g2,g3⟩ (vals_keys g5 rel) (by rw [hsz]; exact z) fun l hl => q _ _ (Kp.new hl) (.tup (SqT.of zag) ((dens_keys ds).mono (Kp.new hl))) (hr.lay hl)
  ·rename_i kvs eg
   cases e
   obtain ⟨xs,e1,ds⟩ := hr p _ eg
   obtain ⟨⟨nd,sz,oks,nod,o,ees,ep,g1,g2,g3,g4⟩,_,_⟩ := I.hok p _ e1
   have hsz : ees.size = xs.length := by rw [<- Array.length_toList,g4,List.length_map]
   exact tupD hc I nd ⟨o,g1,g2,g3⟩ (by rw [g4]; exact vals_keysT xs) (by rw [hsz]; exact sz) fun l hl => q _ _ (Kp.new hl) (.tup (SqT.of zag) ((dens_keysT ds).mono (Kp.new hl))) (hr.lay hl)
  ·cases e
 | _ => cases e
def tupI : List T -> Gp -> VK3 -> Prop := fun ts G Q => match ts with
 | [x] => (match itemsT x G with
  | some us => Q (.tup us) G
  | none => False)
 | _ => False
theorem qtupleI (hm : X.mg "tuple" = none) (ha : QA X (e :: es) t) (hg : Gl X "tuple" := by rfl) (he : starEach (e :: es) X.env = (false,eval e X.env) :: starEach es X.env := by rfl) (hpl : (backTo pos (starEach es X.env)).any (·.1) = false := by rfl) (hc : X.calm = true := by rfl) :
  QE X (.Call (.Name "tuple" p) (e :: es) [] pos) (wCB tupI t) := qcallTy (call_tup3 hc) (fun H G xs ts Q Q3 d r h im => by
 unfold tupI at h
 split at h
 ·cases d with
  | cons d1 d2 =>
   cases d2
   split at h
   ·rename_i us e
    exact ⟨_,G,_,us,rfl,d1,r,e,fun w H' kk dd rr => im _ G _ H' h kk dd rr⟩
   ·exact h.elim
 ·exact h.elim) hm boot_tuple ha hg (by decide) (by decide) he hpl
def dGetK (kvs : List (Key × T)) (y : T) : Option (Option T) := match keyOf y with
 | some kk => some (valKT kvs kk)
 | none => (match kvs,lkOf y with
  | [],some kk => if okLK kk = true then some none else none
  | _,_ => none)
def dGetT (kvs : List (LK × T)) (y : T) : Option (Option T) := match lkOf y with
 | some kk => if okLK kk = true then some (valKT kvs kk) else none
 | none => none
def dGet (x y : T) (G : Gp) : Option (Option T) := match x with
 | .ref p => (match G p with
  | some (.dK kvs) => dGetK kvs y
  | some (.dF _ kvs) => dGetK kvs y
  | some (.dT kvs) => dGetT kvs y
  | some (.dG _ kvs) => dGetT kvs y
  | _ => none)
 | _ => none
inductive DAsk (K : KW) (H : Hp) (p : Addr) (y : V) (o : Option V) : Prop
 | k (g : DGet H p y o) : DAsk K H p y o
 | t (b : Addr) (kk : LK) (xs : List (LK × Addr × Value)) (e : y = .ref b) (hr : Rd H p (.ext (rawD K.P K.w p xs)) ∨ (xs = [] /\ Rd H p (.dK []))) (ds : ∀ x ∈ xs,Den K H (.ref x.2.1) (lkT x.1))
   (d : Den K H (.ref b) (lkT kk)) (ok : okLK kk = true) (ro : RelO o ((atKey xs kk).map (·.2))) : DAsk K H p y o
theorem lk_there {pins : List (Addr × Obj)} {σ : L2.St} {H : Hp} {s : Shared} {p : Addr} {xs : List (LK × Addr × Value)} (I : Inv X pins σ H s) (hr : Rd H p (.ext (rawD X.prog X.w p xs)) ∨ (xs = [] /\ Rd H p (.dK [])))
  (ds : ∀ x ∈ xs,Den X.kw H (.ref x.2.1) (lkT x.1)) : (p == sysModules) = false /\ s.heap.DictOfH (lkKind X.prog X.w) p xs := by
 rcases hr with hr | ⟨rfl,hr⟩
 ·obtain ⟨⟨nd,_,oks,nod,o,es,ep,e1,e2,e3,e4⟩,_,_⟩ := hr.ok I.hok
  exact ⟨nd,o,es,ep,e1,e2,e3,e4,fun x hx => ⟨den_lk I (ds x hx),oks x hx⟩,nod⟩
 ·obtain ⟨z,nd,vs,rel,o,es,ep,g1,g2,g3,g4,g5,g6⟩ := hr.ok I.hok
  cases rel
  have es0 : es.toList = [] := List.length_eq_zero_iff.mp (by have := g5.length; simpa using this)
  exact ⟨nd,o,es,ep,g1,g2,g3,by rw [es0]; rfl,fun x hx => by simp at hx,List.nodup_nil⟩
section
variable {pins : List (Addr × Obj)} {σ : L2.St} {H : Hp} {s : Shared} {p : Addr} {y dv : V} {u r : Value} {ov : Option V} {E : Value -> Shared -> Prop}
theorem room4 (hr : Room k X.A) : X.A.units + 1 + 4 < cLine := by have := hr.un; omega
theorem a_in {Q : Value -> Shared -> Prop} (hr : Room k X.A) (I : Inv X pins σ H s) (g : DAsk X.kw H p y ov) (ry : zaG y u) (h : ∀ s',Inv X pins σ H s' -> Q (.bool ov.isSome) s') :
  wpAny (model X.prog X.w) X.A (compareOp .In u (.ref p)) Q E s := by
 rcases g with g | ⟨b,kk,xs,rfl,hd,ds,d,ok,ro⟩
 ·exact d_in (hu_of hr) I g ry h
 ·cases ry
  obtain ⟨nd,dd⟩ := lk_there I hd ds
  refine wpAny_in_heap (knd := lkKind X.prog X.w) (room4 hr) ⟨den_lk I d,ok⟩ nd dd ?_
  have q := ro.isSome_eq
  rw [Option.isSome_map] at q
  rw [<- q]
  exact h _ (I.tok _)
theorem a_getItem {Q : Value -> Shared -> Prop} {v : V} (hr : Room k X.A) (I : Inv X pins σ H s) (g : DAsk X.kw H p y (some v)) (ry : zaG y u) (h : ∀ w' s',Inv X pins σ H s' -> zaG v w' -> Q w' s') :
  wpAny (model X.prog X.w) X.A (getItem (.ref p) u) Q E s := by
 rcases g with g | ⟨b,kk,xs,rfl,hd,ds,d,ok,ro⟩
 ·exact d_getItem (hu_of hr) I g ry h
 ·cases ry
  obtain ⟨nd,dd⟩ := lk_there I hd ds
  obtain ⟨w',hw,rw'⟩ := RelO.some_of (v := v) (o := (atKey xs kk).map (·.2)) ro
  obtain ⟨pr,hp,hp2⟩ := Option.map_eq_some_iff.mp hw
  refine wpAny_getItem_heap (knd := lkKind X.prog X.w) (room4 hr) ⟨den_lk I d,ok⟩ dd hp ?_
  rw [hp2]
  exact h w' _ (I.tok _) rw'
theorem a_get2 {Q : Value -> Shared -> Prop} (hr : Room k X.A) (I : Inv X pins σ H s) (g : DAsk X.kw H p y ov) (ry : zaG y u) (rd : zaG dv r) (h : ∀ w' s',Inv X pins σ H s' -> zaG (ov.getD dv) w' -> Q w' s') :
  wpAny (model X.prog X.w) X.A (call (.builtin "dict.get") [.ref p,u,r]) Q E s := by
 rcases g with g | ⟨b,kk,xs,rfl,hd,ds,d,ok,ro⟩
 ·exact d_get2 (hu_of hr) I g ry rd h
 ·cases ry
  obtain ⟨nd,dd⟩ := lk_there I hd ds
  exact call_meetsIn PySem.F.slot_dict_get dd.typeIs PySem.F.entry_dict_get (PySem.F.args_dict_get_3 _ _ _) (meetsH_dict_get_default (lkKind X.prog X.w) p b nd r) ⟨room4 hr,kk,xs,⟨den_lk I d,ok⟩,dd,h _ _ (I.tok _) (ro.getD rd)⟩
theorem DAsk.type (I : Inv X pins σ H s) (g : DAsk X.kw H p y ov) : s.TypeIs (.ref p) "dict" /\ ∀ b,Value.ref p = .ref b -> ∃ ob,s.heap.get? b = some ob /\ ob.dict = none := by
 rcases g with g | ⟨b,kk,xs,rfl,hd,ds,d,ok,ro⟩
 ·exact ⟨dict_typeIs I g,dict_noDict I g⟩
 ·obtain ⟨nd,dd⟩ := lk_there I hd ds
  refine ⟨dd.typeIs,fun c q => ?_⟩
  cases q
  obtain ⟨ob,_,_,h1,h2,_⟩ := dd
  exact ⟨ob,h1,h2.2.1⟩
end
theorem EntT.val {K : KW} {H : Hp} {kk : LK} : ∀ {kvs : List (LK × T)} {xs : List (LK × Addr × Value)},EntT K H kvs xs ->
  (∃ t z u,valKT kvs kk = some t /\ (atKey xs kk).map (·.2) = some u /\ zaG z u /\ Den K H z t) ∨ (valKT kvs kk = none /\ (atKey xs kk).map (·.2) = none)
 | _,_,.nil => .inr ⟨rfl,rfl⟩
 | (a,y) :: kvs,(b,c,z) :: xs,.cons ⟨e,_,v,rv,d⟩ r => by
  simp only at e rv d
  subst e
  by_cases z : a = kk
  ·subst z
   exact .inl ⟨y,v,_,by simp [valKT],by simp [atKey],rv,d⟩
  ·rcases EntT.val (kk := kk) r with ⟨t,v',u,h1,h2,h3,h4⟩ | ⟨h1,h2⟩
   ·exact .inl ⟨t,v',u,by simpa [valKT,z] using h1,by simpa [atKey,z] using h2,h3,h4⟩
   ·exact .inr ⟨by simpa [valKT,z] using h1,by simpa [atKey,z] using h2⟩
theorem EntT.dens {K : KW} {H : Hp} {kvs : List (LK × T)} {xs : List (LK × Addr × Value)} (r : EntT K H kvs xs) : ∀ x ∈ xs,Den K H (.ref x.2.1) (lkT x.1) := by
 induction r with
 | nil => intro x h; simp at h
 | cons p _ ih =>
  intro x h
  rcases List.mem_cons.mp h with q | q
  ·subst q; exact p.2.1
  ·exact ih x q
theorem dGetK_den {K : KW} {H : Hp} {u : V} {y : T} {r : Option T} {p : Addr} {kvs : List (Key × T)} {ks : List (Key × V)} (rd : Rd H p (.dK ks)) (ds : Ents K H ks kvs) (d2 : Den K H u y) (h : dGetK kvs y = some r) :
  ∃ o,DAsk K H p u o /\ ((∃ t z,r = some t /\ o = some z /\ Den K H z t) ∨ (r = none /\ o = none)) := by
 unfold dGetK at h
 split at h
 ·rename_i kk ek
  cases h
  have e2 := keyOf_eq ek
  subst e2
  have ey : u = kV kk := by cases kk <;> cases d2 <;> rfl
  refine ⟨valV ks kk,.k (.inl ⟨ks,kk,rd,ey,rfl⟩),?_⟩
  cases e3 : valKT kvs kk with
  | some t => obtain ⟨z,e4,d4⟩ := Ents.val ds e3; exact .inl ⟨t,z,rfl,e4,d4⟩
  | none => exact .inr ⟨rfl,Ents.valN ds e3⟩
 ·split at h
  ·rename_i kk ek
   split at h
   ·rename_i ok
    cases h
    cases ds
    have e2 := lkOf_eq ek
    subst e2
    generalize et : lkT kk = tk at d2
    have d2' := d2
    cases d2 with
    | tup q dd =>
     rw [<- et] at d2'
     exact ⟨none,.t _ kk [] rfl (.inr ⟨rfl,rd⟩) (fun _ hx => by simp at hx) d2' ok trivial,.inr ⟨rfl,rfl⟩⟩
    | _ => cases et
   ·cases h
  ·cases h
theorem dGetT_den {K : KW} {H : Hp} {u : V} {y : T} {r : Option T} {p : Addr} {kvs : List (LK × T)} {xs : List (LK × Addr × Value)} (rd : Rd H p (.ext (rawD K.P K.w p xs))) (ds : EntT K H kvs xs) (d2 : Den K H u y) (h : dGetT kvs y = some r) :
  ∃ o,DAsk K H p u o /\ ((∃ t z,r = some t /\ o = some z /\ Den K H z t) ∨ (r = none /\ o = none)) := by
 unfold dGetT at h
 split at h
 ·rename_i kk ek
  split at h
  ·rename_i ok
   cases h
   have e2 := lkOf_eq ek
   subst e2
   generalize et : lkT kk = tk at d2
   have d2' := d2
   cases d2 with
   | tup q dd =>
    rw [<- et] at d2'
    rcases EntT.val (kk := kk) ds with ⟨t,z,w,h1,h2,h3,h4⟩ | ⟨h1,h2⟩
    ·exact ⟨some z,.t _ kk xs rfl (.inl rd) ds.dens d2' ok (by rw [h2]; exact h3),.inl ⟨t,z,h1,rfl,h4⟩⟩
    ·exact ⟨none,.t _ kk xs rfl (.inl rd) ds.dens d2' ok (by rw [h2]; trivial),.inr ⟨h1,rfl⟩⟩
   | _ => cases et
  ·cases h
 ·cases h
theorem dGet_den {K : KW} {H : Hp} {G : Gp} {v u : V} {x y : T} {r : Option T} (d1 : Den K H v x) (d2 : Den K H u y) (hr : HR K H G) (h : dGet x y G = some r) :
  ∃ p o,v = .ref p /\ DAsk K H p u o /\ ((∃ t z,r = some t /\ o = some z /\ Den K H z t) ∨ (r = none /\ o = none)) := by
 cases d1 with
 | ref p =>
  simp only [dGet] at h
  split at h
  ·rename_i kvs eg
   obtain ⟨ks,e1,ds⟩ := hr p _ eg
   obtain ⟨o,h1,h2⟩ := dGetK_den (.inl e1) ds d2 h
   exact ⟨p,o,rfl,h1,h2⟩
  ·rename_i ob kvs eg
   obtain ⟨ks,e1,ds⟩ := hr p _ eg
   obtain ⟨o,h1,h2⟩ := dGetK_den (.inr ⟨ob,e1⟩) ds d2 h
   exact ⟨p,o,rfl,h1,h2⟩
  ·rename_i kvs eg
   obtain ⟨ks,e1,ds⟩ := hr p _ eg
   obtain ⟨o,h1,h2⟩ := dGetT_den (.inl e1) ds d2 h
   exact ⟨p,o,rfl,h1,h2⟩
  ·rename_i ob kvs eg
   obtain ⟨ks,e1,ds⟩ := hr p _ eg
   obtain ⟨o,h1,h2⟩ := dGetT_den (.inr ⟨ob,e1⟩) ds d2 h
   exact ⟨p,o,rfl,h1,h2⟩
  ·cases h
 | _ => cases h
def wDIn (f : Bool -> Bool) : R3 := fun y x G Q => match dGet x y G with
 | some r => Q (.bl (f r.isSome)) G
 | none => False
def rDIn (K : KW) (f : Bool -> Bool) : R2 := fun y x H Q => ∃ p o,x = .ref p /\ DAsk K H p y o /\ Q (.bl (f o.isSome)) H
theorem lDIn {K : KW} {f : Bool -> Bool} : LR K (wDIn f) (rDIn K f) := by
 intro H G y x y3 x3 Q Q3 dy dx r h im
 unfold wDIn at h
 split at h
 ·rename_i rr e
  obtain ⟨p,o,e1,g,e2⟩ := dGet_den dx dy r e
  refine ⟨p,o,e1,g,?_⟩
  have : o.isSome = rr.isSome := by
   rcases e2 with ⟨t,z,e3,e4,_⟩ | ⟨e3,e4⟩
   ·rw [e3,e4]; rfl
   ·rw [e3,e4]; rfl
  rw [this]
  exact im _ G _ H h (Kp.refl _) (.bl _) r
 ·exact h.elim
theorem op_dIn (hr : Room k X.A) : OpR X (compareOp .In) (rDIn X.kw id) := by
 intro pins s σ H y x v u Q I ry rx h
 obtain ⟨p,o,rfl,g,q⟩ := h
 cases rx
 exact a_in hr I g ry fun s' I' => ⟨.bl _,H,I',rfl,q⟩
def wInA (f : Bool -> Bool) : R3 := fun x y G Q => match inSeq x y G with
 | some kk => Q (.bl (f kk)) G
 | none => (match dGet y x G with
  | some r => Q (.bl (f r.isSome)) G
  | none => False)
theorem lInA {K : KW} {f : Bool -> Bool} : LR K (wInA f) (fun x y H Q => rInS K f x y H Q ∨ rDIn K f x y H Q) := by
 intro H G x y x3 y3 Q Q3 dx dy r h im
 unfold wInA at h
 split at h
 ·rename_i kk e
  exact .inl (lInS H G x y x3 y3 Q Q3 dx dy r (by unfold wInS; rw [e]; exact h) im)
 ·exact .inr (lDIn H G x y x3 y3 Q Q3 dx dy r h im)
theorem qin (hr : Room k X.A) (ha : QE X a ta) (hb : QE X b tb) (hm : behindInMarks .In b = false := by with_unfolding_all rfl) : QE X (.Compare a [.In] [b] pos) (wOp (wInA id) ta tb) := qcmp (OpR.or (op_inS hr) (op_dIn hr)) lInA ha hb hm
theorem qtin (hr : Room k X.A) (ha : QE X a ta) (hb : QE X b tb) (hm : behindInMarks .In b = false := by with_unfolding_all rfl) : QT X (.Compare a [.In] [b] pos) (zcf (wOp (wInA id) ta tb)) := qtcmp (OpR.or (op_inS hr) (op_dIn hr)) lInA ha hb hm
def ixA : R3 := fun x y G Q => match dGet x y G with
 | some (some v) => Q v G
 | some none => False
 | none => ix3 x y G Q
theorem ix_dict (hr : Room k X.A) : IxR X (fun x y H Q => ∃ p v,x = .ref p /\ DAsk X.kw H p y (some v) /\ Q v H) := by
 intro value slice pins s σ H x y v u Q I rx ry h hs
 obtain ⟨p,z,rfl,g,q⟩ := h
 cases rx
 exact tail_any (g.type I).1 PySem.F.slot_dict_getitem.lookup (a_getItem hr I g ry fun w' s' I' rw' => ⟨z,H,I',rw',q⟩) hs
theorem zce (hr : Room k X.A) (ha : QE X a ta) (hb : QE X b tb) (hs : PlainIx b := by exact fun _ _ => rfl) : QE X (.Subscript a b pos) (wOp ixA ta tb) := (pe_ix (IxR.or (ix_dict hr) (IxR.or ix_list ix_tup)) ha hb hs).imp fun σ H Q h => lOp (r3 := ixA) (fun H G x y x3 y3 Q Q3 dx dy r h im => by
  unfold ixA at h
  split at h
  ·rename_i w e
   obtain ⟨p,o,e1,g,⟨t',z,e2,e3,dz⟩ | ⟨e2,_⟩⟩ := dGet_den dx dy r e
   case inr => cases e2
   cases e2
   subst e3
   exact .inl ⟨p,z,e1,g,im _ G _ H h (Kp.refl _) dz r⟩
  ·exact h.elim
  ·refine .inr ?_
   unfold ix3 at h
   cases dy with
   | int j =>
    simp only at h
    split at h
    ·rename_i us e
     split at h
     ·rename_i w e2
      obtain ⟨p,xs,e1,q,ds⟩ := seqOf_den dx r e
      obtain ⟨z,e3,d3⟩ := atI_den ds e2
      have fin := im _ G _ H h (Kp.refl _) d3 r
      rcases q with q | q
      ·exact .inl ⟨p,xs,j,z,e1,rfl,q,e3,fin⟩
      ·exact .inr ⟨p,xs,j,z,e1,rfl,q,e3,fin⟩
     ·exact h.elim
    ·exact h.elim
   | _ => exact False.elim h) h
def onDct (x : T) (G : Gp) (Q : Prop) : Prop := match x with
 | .ref p => (match G p with
  | some (.dK _) => Q
  | some (.dF _ _) => Q
  | some (.dT _) => Q
  | some (.dG _ _) => Q
  | _ => False)
 | _ => False
def get3 (x y z : T) (G : Gp) (Q : VK3) : Prop := match dGet x y G with
 | some r => Q (r.getD z) G
 | none => False
theorem onDct_at {pins : List (Addr × Obj)} {σ : L2.St} {H : Hp} {s : Shared} {G : Gp} {v : V} {x : T} {Q : Prop} (I : Inv X pins σ H s) (d : Den X.kw H v x) (r : HR X.kw H G) (h : onDct x G Q) :
  Q /\ ∃ p,v = .ref p /\ s.TypeIs (.ref p) "dict" /\ ∀ b,Value.ref p = .ref b -> ∃ ob,s.heap.get? b = some ob /\ ob.dict = none := by
 have lk : ∀ p xs,Rd H p (.ext (rawD X.prog X.w p xs)) -> s.TypeIs (.ref p) "dict" /\ ∀ b,Value.ref p = .ref b -> ∃ ob,s.heap.get? b = some ob /\ ob.dict = none := by
  intro p xs rd
  obtain ⟨⟨nd,_,oks,nod,o,es,ep,e1,e2,e3,e4⟩,_,_⟩ := rd.ok I.hok
  refine ⟨⟨o,e1,e2.1⟩,fun b q => ?_⟩
  cases q
  exact ⟨o,e1,e2.2.1⟩
 cases d with
 | ref p =>
  simp only [onDct] at h
  split at h
  ·rename_i kvs eg
   obtain ⟨ks,e1,ds⟩ := r p _ eg
   have q := isD_at I (.inl ⟨ks,.inl e1⟩)
   exact ⟨h,p,rfl,q.1,q.2.1⟩
  ·rename_i ob kvs eg
   obtain ⟨ks,e1,ds⟩ := r p _ eg
   have q := isD_at I (.inl ⟨ks,.inr ⟨ob,e1⟩⟩)
   exact ⟨h,p,rfl,q.1,q.2.1⟩
  ·rename_i kvs eg
   obtain ⟨xs,e1,ds⟩ := r p _ eg
   exact ⟨h,p,rfl,lk p xs (.inl e1)⟩
  ·rename_i ob kvs eg
   obtain ⟨xs,e1,ds⟩ := r p _ eg
   exact ⟨h,p,rfl,lk p xs (.inr ⟨ob,e1⟩)⟩
  ·exact h.elim
 | _ => exact False.elim h
def wGet1 (to te : TE3) : TE3 := fun τ G Q => to τ G fun x G1 => onDct x G1 (te τ G1 fun y G2 => get3 x y .non G2 Q)
def wGet2 (to te tf : TE3) : TE3 := fun τ G Q => to τ G fun x G1 => onDct x G1 (te τ G1 fun y G2 => tf τ G2 fun z G3 => get3 x y z G3 Q)
theorem get3_den {K : KW} {H : Hp} {G : Gp} {v u w : V} {x y z : T} {Q3 : VK3} (d1 : Den K H v x) (d2 : Den K H u y) (d3 : Den K H w z) (hr : HR K H G) (h : get3 x y z G Q3) :
  ∃ p o t,v = .ref p /\ DAsk K H p u o /\ Den K H (o.getD w) t /\ Q3 t G := by
 unfold get3 at h
 split at h
 ·rename_i r e
  obtain ⟨p,o,e1,g,e2⟩ := dGet_den d1 d2 hr e
  refine ⟨p,o,_,e1,g,?_,h⟩
  rcases e2 with ⟨t,zz,e3,e4,dz⟩ | ⟨e3,e4⟩
  ·rw [e3,e4]; exact dz
  ·rw [e3,e4]; exact d3
 ·exact h.elim
variable {f : Expr} {te tf : TE3}
theorem qget2 (hr : Room k X.A) (ho : QE X o to) (he : QE X e te) (hf : QE X f tf) (m : M2 X o "get" apos e f pos := by exact ⟨rfl,rfl,rfl,rfl⟩) : QE X (.Call (.Attribute o "get" apos) [e,f] [] pos) (wGet2 to te tf) := by
 intro pins s σ H Q I ⟨τ,G,Q3,st,r,h,im⟩
 refine wpAny_Call_method m.base m.few m.line PySem.F.plainAttrs_dict PySem.F.slot_dict_get PySem.F.type_dict_get
  (thn (ho pins s σ H (fun v H1 => ∃ x G1,onDct x G1 (te τ G1 fun y G2 => tf τ G2 fun z G3 => get3 x y z G3 Q3) /\ Kp H H1 /\ Den X.kw H1 v x /\ HR X.kw H1 G1) I ⟨τ,G,_,st,r,h,fun x G1 v H1 h1 k1 d1 r1 => ⟨x,G1,h1,k1,d1,r1⟩⟩) fun u s1 ⟨v,H1,I1,rv,x,G1,h1,k1,d1,r1⟩ => ?_)
 obtain ⟨h1,p,rfl,t1,t2⟩ := onDct_at I1 d1 r1 h1
 cases rv
 refine ⟨t1,t2,?_⟩
 rw [m.trees]
 refine Calls.callWith_builtin rfl (Calls.evalArgs_plain (Calls.spliced_cons (thn (he pins s1 σ H1 (fun w H2 => ∃ y G2,(tf τ G2 fun z G3 => get3 x y z G3 Q3) /\ Kp H1 H2 /\ Den X.kw H2 w y /\ HR X.kw H2 G2) I1 ⟨τ,G1,_,st.mono k1,r1,h1,fun y G2 w H2 h2 k2 d2 r2 => ⟨y,G2,h2,k2,d2,r2⟩⟩) fun iv s2 ⟨w,H2,I2,rw2,y,G2,h2,k2,d2,r2⟩ =>
  Calls.spliced_cons (thn (hf pins s2 σ H2 (fun w H3 => ∃ z G3,get3 x y z G3 Q3 /\ Kp H2 H3 /\ Den X.kw H3 w z /\ HR X.kw H3 G3) I2 ⟨τ,G2,_,st.mono (k1.trans k2),r2,h2,fun z G3 w H3 h3 k3 d3 r3 => ⟨z,G3,h3,k3,d3,r3⟩⟩) fun fv s3 ⟨w3,H3,I3,rw3,z,G3,h3,k3,d3,r3⟩ => Calls.spliced_nil ?_))))
 obtain ⟨p',ov,t,e,g,dt,q⟩ := get3_den (d1.mono (k2.trans k3)) (d2.mono k3) d3 r3 h3
 cases e
 exact a_get2 hr I3 g rw2 rw3 fun w' s4 I4 rw' => ⟨_,H3,I4,rw',im _ G3 _ H3 q ((k1.trans k2).trans k3) dt r3⟩
end
end L3
set_option Elab.async false
set_option linter.all false
set_option maxRecDepth 100000
set_option maxHeartbeats 4000000
namespace L3
open PySem PySem.Spec PyProof.Rows L2
section
variable {X : Cx} {e a b c o i l : Expr} {es : List Expr} {pos apos p p2 : Pos} {ta tb tc tv to ti tl : TE3} {t : TA3} {k : Nat} {tg : Expr}
theorem qgs1 {x z : Str} (hm : ∃ t,X.mg x = some (.str z t)) (hg : Gl X x := by rfl) (hd : (x == ("__debug__" : Str)) = false := by decide) : QE X (.Name x pos) (wC (.str z)) := let ⟨_,h⟩ := hm; qgstr h hg hd
theorem qi_seq (hl : QE X l tl) : QI X tg l (iSeq tl) := by
 intro pins s σ H R I h
 obtain ⟨τ,G,Q3,st,r,h,im⟩ := h
 refine thn (hl pins s σ H (fun v H1 => ∃ x G1,iSeq (fun _ _ Q => Q x G1) τ G1 Q3 /\ Kp H H1 /\ Den X.kw H1 v x /\ HR X.kw H1 G1) I ⟨τ,G,_,st,r,h,fun x G1 v H1 h1 k1 d1 r1 => ⟨x,G1,h1,k1,d1,r1⟩⟩) fun v s1 ⟨vv,H1,I1,rv,x,G1,h1,k1,d1,r1⟩ => ?_
 unfold iSeq at h1
 cases d1 with
 | tup q ds =>
  rename_i a xs ts
  cases rv
  obtain ⟨its,rr,pl,hz⟩ := I1.tuple q
  refine wpAny_pyIter_tuple (show s1.heap.IsTuple a its.toArray from pl) ?_
  refine ⟨s1.heap.objs.size,[s1.heap.objs.size],_,_,H1,rfl,I1.kept (t' := s1.toks) fun b o e => Heap.get?_push_of_some _ e,turn_tuple a _,⟨_,Heap.get?_push_size _ rfl,rfl,rfl⟩,fun b hb => ?_,im ts _ G1 _ H1 h1 k1 r1 ⟨fun j H2 G2 kk _ _ hj => ?_,fun j H2 G2 y H3 kk r2 _ hj hy => ?_,fun j H2 G2 kk _ _ hj => ?_⟩⟩
  ·obtain rfl := List.mem_singleton.mp hb
   exact I1.fpOk (Nat.le_refl _) (I1.hok.fresh (Nat.le_refl _))
  ·have hj' : j < xs.length := by rw [ds.length]; exact hj
   exact ⟨xs,xs[j],kk.sqT q,by simp [hj']⟩
  ·obtain ⟨e,hy⟩ := hy
   subst e
   obtain ⟨t,et,dt⟩ := (ds.mono kk).getV (hy xs (kk.sqT q))
   exact ⟨Kp.refl _,r2,t,et,dt⟩
  ·exact ⟨xs,kk.sqT q,by rw [ds.length]; exact hj⟩
 | fro q ds =>
  rename_i a xs ts
  cases rv
  obtain ⟨its,rr,pl,hz⟩ := I1.list q.sq
  refine wpAny_pyIter_list pl.isList ?_
  refine ⟨s1.heap.objs.size,[s1.heap.objs.size],_,_,H1,rfl,I1.kept (t' := s1.toks) fun b o e => Heap.get?_push_of_some _ e,turn_list a _,⟨_,Heap.get?_push_size _ rfl,rfl,rfl⟩,fun b hb => ?_,im ts _ G1 _ H1 h1 k1 r1 ⟨fun j H2 G2 kk _ _ hj => ?_,fun j H2 G2 y H3 kk r2 _ hj hy => ?_,fun j H2 G2 kk _ _ hj => ?_⟩⟩
  ·obtain rfl := List.mem_singleton.mp hb
   exact I1.fpOk (Nat.le_refl _) (I1.hok.fresh (Nat.le_refl _))
  ·have hj' : j < xs.length := by rw [ds.length]; exact hj
   exact ⟨xs,xs[j],(kk.sqF q).sq,by simp [hj']⟩
  ·obtain ⟨e,hy⟩ := hy
   subst e
   obtain ⟨t,et,dt⟩ := (ds.mono kk).getV (hy xs (kk.sqF q).sq)
   exact ⟨Kp.refl _,r2,t,et,dt⟩
  ·exact ⟨xs,(kk.sqF q).sq,by rw [ds.length]; exact hj⟩
 | ref a =>
  simp only at h1
  split at h1
  ·rename_i ts e
   cases rv
   obtain ⟨xs,e1,ds⟩ := r1 a _ e
   obtain ⟨its,rr,pl,hz⟩ := I1.list (SqL.of e1)
   refine wpAny_pyIter_list pl.isList ?_
   refine ⟨s1.heap.objs.size,[s1.heap.objs.size],_,_,H1,rfl,I1.kept (t' := s1.toks) fun b o e => Heap.get?_push_of_some _ e,turn_list a _,⟨_,Heap.get?_push_size _ rfl,rfl,rfl⟩,fun b hb => ?_,im ts _ G1 _ H1 h1 k1 r1 ⟨fun j H2 G2 kk r2 hS hj => ?_,fun j H2 G2 y H3 kk r2 hS hj hy => ?_,fun j H2 G2 kk r2 hS hj => ?_⟩⟩
   ·obtain rfl := List.mem_singleton.mp hb
    exact I1.fpOk (Nat.le_refl _) (I1.hok.fresh (Nat.le_refl _))
   ·obtain ⟨ys,e2,ds2⟩ := r2 a _ hS
    have hj' : j < ys.length := by rw [ds2.length]; exact hj
    exact ⟨ys,ys[j],SqL.of e2,by simp [hj']⟩
   ·obtain ⟨ez,hy⟩ := hy
    subst ez
    obtain ⟨ys,e2,ds2⟩ := r2 a _ hS
    obtain ⟨t,et,dt⟩ := ds2.getV (hy ys (SqL.of e2))
    exact ⟨Kp.refl _,r2,t,et,dt⟩
   ·obtain ⟨ys,e2,ds2⟩ := r2 a _ hS
    exact ⟨ys,SqL.of e2,by rw [ds2.length]; exact hj⟩
  ·exact h1.elim
 | _ => exact False.elim h1
structure CmpI (X : Cx) (op : CmpOp) (f : Int -> Int -> Bool) : Prop where
 o : OpR X (compareOp op) (rI0 fun i j => .bl (f i j))
abbrev TGs3 := List T -> St3 -> Gp -> (St3 -> Gp -> Prop) -> Prop
def lGs (K : KW) (g : TGs3) : TGs := fun vs σ H Q => ∃ ts τ G Q3,Dens K H vs ts /\ Sts K H σ τ /\ HR K H G /\ g ts τ G Q3 /\ ImpS K H Q3 Q
def hNil : TGs3 := fun ts τ G Q => match ts with
 | [] => Q τ G
 | _ => False
def hCons (g : TG3) (u : TGs3) : TGs3 := fun ts τ G Q => match ts with
 | t :: r => g t τ G fun τ' G' => u r τ' G' Q
 | [] => False
theorem _root_.L2.PGs.imp {ts : List Expr} {g g' : TGs} (h : PGs X ts g) (i : ∀ v σ H Q,g' v σ H Q -> g v σ H Q) : PGs X ts g' := fun pins s σ H v u Q I r q => h pins s σ H v u Q I r (i _ _ _ _ q)
abbrev QGs (X : Cx) (ts : List Expr) (g : TGs3) : Prop := PGs X ts (lGs X.kw g)
theorem qgs0 : QGs X [] hNil := pgs_nil.imp fun v σ H Q ⟨ts,τ,G,Q3,d,s,r,h,im⟩ => by
 cases d with
 | nil => exact ⟨rfl,im τ G σ H h (Kp.refl _) s r⟩
 | cons _ _ => exact False.elim h
theorem qgs {g : TG3} {u : TGs3} (h1 : QG X e g) (h2 : QGs X es u) (hs : (assignEach (e :: es) X.env).map (·.2) = assign e X.env :: (assignEach es X.env).map (·.2) := by rfl) : QGs X (e :: es) (hCons g u) := (pgs_cons h1 h2 hs).imp fun v σ H Q ⟨ts,τ,G,Q3,d,s,r,h,im⟩ => by
 cases d with
 | nil => exact False.elim h
 | cons d1 d2 =>
  refine ⟨_,_,rfl,_,τ,G,_,d1,s,r,h,fun τ' G' σ' H' h' k' s' r' => ?_⟩
  exact ⟨_,τ',G',Q3,d2.mono k',s',r',h',im.mono k'⟩
def hTup (n : Nat) (u : TGs3) : TG3 := fun x τ G Q => match x with
 | .tup ts => ts.length = n /\ u ts τ G Q
 | _ => False
theorem qgtup {u : TGs3} {kk n : Nat} (h : QGs X es u) (hn : (assignEach es X.env).length = n := by rfl) (hst : (assignEach es X.env).findIdx? (·.1) = none := by rfl) (hc : X.calm = true := by rfl) : QG X (.Tuple es kk pos) (hTup n u) := (pg_tup hc h hn hst).imp fun v σ H Q ⟨x,τ,G,Q3,d,s,r,h,im⟩ => by
 cases d with
 | tup q ds => exact ⟨_,_,rfl,q,by rw [ds.length]; exact h.1,_,τ,G,Q3,ds,s,r,h.2,im⟩
 | _ => exact False.elim h
abbrev TO3 := St3 -> Gp -> (Option Int -> Gp -> Prop) -> Prop
def lO (K : KW) (t : TO3) : TO := fun σ H Q => ∃ τ G Q3,Sts K H σ τ /\ HR K H G /\ t τ G Q3 /\ ∀ o G' H',Q3 o G' -> Kp H H' -> HR K H' G' -> Q o H'
def wP0 : TO3 := fun _ G Q => Q none G
def wP1 (ta : TE3) : TO3 := fun τ G Q => ta τ G fun x G1 => match x with
 | .int i => Q (some i) G1
 | _ => False
abbrev QO (X : Cx) (e : Option Expr) (t : TO3) : Prop := PO X e (lO X.kw t)
theorem _root_.L2.PO.imp {e : Option Expr} {t t' : TO} (h : PO X e t) (i : ∀ σ H Q,t' σ H Q -> t σ H Q) : PO X e t' := fun pins s σ H Q I q => h pins s σ H Q I (i _ _ _ q)
theorem qp0 : QO X none wP0 := po_none.imp fun σ H Q ⟨τ,G,Q3,s,r,h,im⟩ => im none G H h (Kp.refl _) r
theorem qp1 (ha : QE X a ta) : QO X (some a) (wP1 ta) := (po_some ha).imp fun σ H Q ⟨τ,G,Q3,s,r,h,im⟩ => by
 refine ⟨τ,G,_,s,r,h,fun x G1 v H1 h1 k1 d1 r1 => ?_⟩
 cases d1 with
 | int i => exact ⟨i,rfl,im _ G1 H1 h1 k1 r1⟩
 | _ => exact False.elim h1
def cutT (ts : List T) (lo hi : Option Int) : List T := (ts.drop (HT.sIx ts.length 0 lo)).take (HT.sIx ts.length ts.length hi - HT.sIx ts.length 0 lo)
def zbT (x : T) (lo hi : Option Int) (G : Gp) (Q : VK3) : Prop := match x with
 | .tup ts => Q (.tup (cutT ts lo hi)) G
 | .fro ts => ∀ p,G p = none -> Q (.ref p) (updG G p (.lst (cutT ts lo hi)))
 | .ref p => (match G p with
  | some (.lst ts) => ∀ p,G p = none -> Q (.ref p) (updG G p (.lst (cutT ts lo hi)))
  | _ => False)
 | _ => False
def wSlice (ta : TE3) (tl th : TO3) : TE3 := fun τ G Q => ta τ G fun x G1 => tl τ G1 fun lo G2 => th τ G2 fun hi G3 => zbT x lo hi G3 Q
end
end L3
set_option Elab.async false
set_option linter.all false
set_option maxRecDepth 100000
set_option maxHeartbeats 4000000
namespace HT
open PySem PySem.Spec PyProof.Rows L2
section
variable {prog : Program} {w : World} {A : Around} {E : Value -> Shared -> Prop} {s : Shared}
theorem getItem_tuple_all {t sl : Addr} {items : Array Value} {vl vu : Value} {lo hi : Option Int} {Q : Value -> Shared -> Prop} (ht : IsTup s.heap t items) (hs : s.heap.IsSliceOf sl vl vu .none) (pl : IsPart vl lo) (pu : IsPart vu hi)
  (hw : sIx items.size 0 lo = 0 /\ sIx items.size items.size hi = items.size) (h : Q (.ref t) s) : wpAny (model prog w) A (getItem (.ref t) (.ref sl)) Q E s := by
 obtain ⟨os,hos,hcs,hds⟩ := id hs
 have hTs : s.TypeIs (.ref sl) "slice" := ⟨os,hos,hcs⟩
 unfold getItem
 try with_reducible refine wpAny_holding ?_
 first | refine wpAny_bind (wpAny_pure ?_) | skip
 refine wpAny_bind (wpAny_sequenceKey ht.typeIs (by decide) ?_)
 refine wpAny_bind (wpAny_callSpecial?_slot (name := Str.ofString "__getitem__") ht.typeIs PyProof.Rows.slot_tuple_getitem
  (wpAny_call_entry PyProof.Rows.slot_tuple_getitem ht.typeIs entry_tuple_getitem ?_ (args_tuple_getitem _ _)))
 show wpAny _ _ (Builtin.Tuple.tupleItemsOf (.ref t) >>= _) _ _ s
 refine wpAny_bind (tupleItemsOf_ ht ?_)
 refine wpAny_bind (wpAny_typeOf hTs ?_)
 rw [if_pos (by decide)]
 refine wpAny_bind (sliceApplied_gen hs pl pu ?_)
 have hy : ((((sIx items.size 0 lo : Nat) : Int) == 0 && (1 : Int) == 1 && (sIx items.size items.size hi - sIx items.size 0 lo) == items.size) = true) := by
  rw [hw.1,hw.2]; simp
 show wpAny _ _ (if (((sIx items.size 0 lo : Nat) : Int) == 0 && (1 : Int) == 1 && (sIx items.size items.size hi - sIx items.size 0 lo) == items.size) = true then _ else _) _ _ s
 rw [if_pos hy]
 refine wpAny_bind (show wpAny _ _ (Builtin.Tuple.tupleIsExact (.ref t)) _ _ _ from ?_)
 unfold Builtin.Tuple.tupleIsExact
 refine wpAny_bind (wpAny_typeOf ht.typeIs (wpAny_pure ?_))
 rw [if_pos (by decide)]
 exact wpAny_bind (wpAny_rule (wpAny_pure ⟨_,rfl,wpAny_pure h⟩))
end
end HT
namespace L3
open PySem PySem.Spec PyProof.Rows L2
section
variable {X : Cx} {e a b c o i l : Expr} {es : List Expr} {pos apos p p2 : Pos} {ta tb tc tv to ti tl : TE3} {t : TA3} {k : Nat} {tg : Expr}
theorem Dens.cut {K : KW} {H : Hp} {xs : List V} {ts : List T} (d : Dens K H xs ts) (lo hi : Option Int) : Dens K H (cutV xs lo hi) (cutT ts lo hi) := by
 unfold cutV cutT
 rw [d.length]
 exact (d.drop _).take _
theorem cutT_whole {ts : List T} {lo hi : Option Int} (h : HT.sIx ts.length 0 lo = 0 /\ HT.sIx ts.length ts.length hi = ts.length) : cutT ts lo hi = ts := by
 unfold cutT
 rw [h.1,h.2]
 simp
def rSl3 (K : KW) : V -> Option Int -> Option Int -> Hp -> VK -> Prop := fun x lo hi H Q => ∃ G tx Q3,Den K H x tx /\ HR K H G /\ zbT tx lo hi G Q3 /\ Imp K H Q3 Q
theorem sl_any : SlR X (rSl3 X.kw) := by
 intro pins s σ H x v vl vu lo hi sl Q I rx hs pl pu h
 obtain ⟨G,tx,Q3,d,r,h,im⟩ := h
 cases d with
 | tup q ds =>
  rename_i a xs ts
  simp only [zbT] at h
  by_cases hw : HT.sIx ts.length 0 lo = 0 /\ HT.sIx ts.length ts.length hi = ts.length
  ·cases rx
   obtain ⟨its,rr,ht,hz⟩ := I.tuple q
   have hlen : its.toArray.size = ts.length := by rw [List.size_toArray,<- ds.length]; exact rr.length.symm
   refine ⟨"tuple",_,PyProof.Rows.slot_tuple_getitem.lookup,ht.typeIs,?_⟩
   rw [cutT_whole hw] at h
   exact HT.getItem_tuple_all ht hs pl pu (by rw [hlen]; exact hw) ⟨.ref a,H,I,rfl,im _ G _ H h (Kp.refl _) (.tup q ds) r⟩
  ·exact sl_tup pins s σ H _ v vl vu lo hi sl Q I rx hs pl pu ⟨a,xs,rfl,q,by rw [ds.length]; exact hw,fun p hp => im _ G _ _ h (Kp.new hp) (.tup (SqT.of zag) ((ds.cut lo hi).mono (Kp.new hp))) (r.lay hp)⟩
 | fro q ds =>
  rename_i a xs ts
  exact sl_list pins s σ H _ v vl vu lo hi sl Q I rx hs pl pu ⟨a,xs,rfl,q.sq,fun p hp => im _ _ _ _ (h p (r.free hp)) (Kp.new hp) (.ref p) (r.new (o := .lst (cutT ts lo hi)) hp ⟨_,zag,(ds.cut lo hi).mono (Kp.new hp)⟩)⟩
 | ref a =>
  simp only [zbT] at h
  split at h
  ·rename_i ts eg
   obtain ⟨xs,e1,ds⟩ := r a _ eg
   exact sl_list pins s σ H _ v vl vu lo hi sl Q I rx hs pl pu ⟨a,xs,rfl,SqL.of e1,fun p hp => im _ _ _ _ (h p (r.free hp)) (Kp.new hp) (.ref p) (r.new (o := .lst (cutT ts lo hi)) hp ⟨_,zag,(ds.cut lo hi).mono (Kp.new hp)⟩)⟩
  ·exact h.elim
 | _ => exact False.elim h
theorem qslice {lo hi : Option Expr} {wl wh : TO3} (ha : QE X a ta) (hl : QO X lo wl) (hh : QO X hi wh) : QE X (.Subscript a (.Slice lo hi none p2) pos) (wSlice ta wl wh) := (pe_slice sl_any ha hl hh).imp fun σ H Q ⟨τ,G,Q3,s,r,h,im⟩ => by
 refine ⟨τ,G,_,s,r,h,fun x G1 v H1 h1 k1 d1 r1 => ⟨τ,G1,_,s.mono k1,r1,h1,fun lo G2 H2 h2 k2 r2 => ⟨τ,G2,_,s.mono (k1.trans k2),r2,h2,fun hi G3 H3 h3 k3 r3 => ?_⟩⟩⟩
 exact ⟨G3,x,Q3,d1.mono (k2.trans k3),r3,h3,im.mono ((k1.trans k2).trans k3)⟩
end
end L3
set_option Elab.async false
set_option linter.all false
set_option maxRecDepth 100000
set_option maxHeartbeats 4000000
namespace L3
open PySem PySem.Spec PyProof.Rows L2
section
variable {X : Cx} {e a b c o i l : Expr} {es : List Expr} {pos apos p p2 : Pos} {ta tb tc tv to ti tl : TE3} {t : TA3} {k : Nat} {tg : Expr}
def isInt : T -> Option Bool
 | .int _ => some true
 | .bl _ => some true
 | .non => some false
 | .str _ => some false
 | .tup _ => some false
 | _ => none
def isBool : T -> Option Bool
 | .bl _ => some true
 | .int _ => some false
 | .non => some false
 | .str _ => some false
 | .tup _ => some false
 | _ => none
def zbN : T -> Option Bool
 | .tup _ => some true
 | .bl _ => some false
 | .int _ => some false
 | .non => some false
 | .str _ => some false
 | _ => none
def rIsi (K : KW) (n : String) (f : T -> Option Bool) : List V -> Hp -> VK -> Prop := fun xs H Q => ∃ v x b,xs = [v,.ty n] /\ Den K H v x /\ f x = some b /\ Q (.bl b) H
def isi3' (n : String) (f : T -> Option Bool) : List T -> Gp -> VK3 -> Prop := fun ts G Q => match ts with
 | [x,.ty m] => m = n /\ (match f x with
  | some b => Q (.bl b) G
  | none => False)
 | _ => False
theorem lIsi {K : KW} {n : String} {f : T -> Option Bool} : LC K (isi3' n f) (rIsi K n f) := by
 intro H G xs ts Q Q3 d r h im
 unfold isi3' at h
 split at h
 ·cases d with
  | cons d1 d2 => cases d2 with
   | cons d3 d4 =>
    cases d4; cases d3
    obtain ⟨rfl,h⟩ := h
    split at h
    ·rename_i b e
     exact ⟨_,_,b,rfl,d1,e,im _ G _ H h (Kp.refl _) (.bl _) r⟩
    ·exact h.elim
 ·exact h.elim
theorem call_isi {n : String} {f : T -> Option Bool} (hb : ∀ b y,f (.bl b) = some y -> PySem.W.kitOne X.K (.type "bool") (.type n) = some y) (hi : ∀ b y,f (.int b) = some y -> PySem.W.kitOne X.K (.type "int") (.type n) = some y)
  (hn : ∀ y,f .non = some y -> PySem.W.kitOne X.K (.type "NoneType") (.type n) = some y) (hs : ∀ b y,f (.str b) = some y -> PySem.W.kitOne X.K (.type "str") (.type n) = some y) (ht : ∀ b y,f (.tup b) = some y -> PySem.W.kitOne X.K (.type "tuple") (.type n) = some y)
  (hf : ∀ b,f (.fro b) = none) (hr : ∀ b,f (.ref b) = none) (hy : ∀ b,f (.ty b) = none) : zbG X (.builtin "isinstance") (rIsi X.kw n f) := by
 intro pins s σ H xs us Q I r h
 obtain ⟨v,x,b,rfl,d,e,q⟩ := h
 obtain ⟨u,w',rfl,r1,r2⟩ := vals2 r
 cases r2
 have fin : ∀ tk,EP X pins σ Q (.bool b) { s with toks := tk } := fun tk => ⟨.bl b,H,I.tok tk,rfl,q⟩
 cases d with
 | non => exact isinst_ok I r1 .non (hn _ e) fin
 | bl z => exact isinst_ok I r1 (.bl z) (hb _ _ e) fin
 | int z => exact isinst_ok I r1 (.int z) (hi _ _ e) fin
 | str z => exact isinst_ok I r1 (.str z) (hs _ _ e) fin
 | tup z ds =>
  cases r1
  obtain ⟨its,_,⟨o,h1,h2,_⟩,_⟩ := I.tuple z
  exact PySem.W.kia_one PySem.W.kitx_tuple I.kIn ⟨o,h1,h2⟩ (ht _ _ e) (fun z => nomatch z) fin
 | fro z ds => rw [hf] at e; cases e
 | ref z => rw [hr] at e; cases e
 | ty z => rw [hy] at e; cases e
theorem qty {x : Str} {n : String} (hm : X.mg x = none) (hv : bootBuiltins x = some (.type n)) (hg : Gl X x := by rfl) (hn : x ≠ "__name__" := by decide) (hd : (x == ("__debug__" : Str)) = false := by decide) : QE X (.Name x pos) (wC (.ty n)) := qc (pe_bltn (v := .ty n) hg hm hv rfl hn hd) fun _ _ => .ty _
def wIsi (n : String) (f : T -> Option Bool) (ta : TE3) : TE3 := fun τ G Q => ta τ G fun x G1 => match f x with
 | some b => Q (.bl b) G1
 | none => False
theorem qisi_of {n : String} {f : T -> Option Bool} {x : Str} (hc : zbG X (.builtin "isinstance") (rIsi X.kw n f)) (hm : X.mg "isinstance" = none) (hx : X.mg x = none) (hv : bootBuiltins x = some (.type n)) (ha : QE X a ta) (hg : Gl X "isinstance") (hgx : Gl X x) (hnx : x ≠ "__name__") (hdx : (x == ("__debug__" : Str)) = false)
  (he : starEach [a,.Name x p2] X.env = (false,eval a X.env) :: starEach [.Name x p2] X.env) (he2 : starEach [.Name x p2] X.env = (false,eval (.Name x p2) X.env) :: starEach [] X.env) (hpl : (backTo pos (starEach [.Name x p2] X.env)).any (·.1) = false) :
  QE X (.Call (.Name "isinstance" p) [a,.Name x p2] [] pos) (wIsi n f ta) :=
 (qcallB hc lIsi hm boot_isinstance (qa ha (qa (qty hx hv hgx hnx hdx) qa0 he2) he) hg (by decide) (by decide) he hpl).imp fun σ H Q ⟨τ,G,Q3,s,r,h,im⟩ => by
  refine ⟨τ,G,Q3,s,r,?_,im⟩
  refine Eq.mp ?_ h
  unfold wIsi wCB za3 wNil wC isi3'
  simp only [true_and]
theorem qisi_tuple (hm : X.mg "isinstance" = none) (hx : X.mg "tuple" = none) (ha : QE X a ta) (hg : Gl X "isinstance" := by rfl) (hgx : Gl X "tuple" := by rfl)
  (he : starEach [a,.Name "tuple" p2] X.env = (false,eval a X.env) :: starEach [.Name "tuple" p2] X.env := by rfl) (he2 : starEach [.Name "tuple" p2] X.env = (false,eval (.Name "tuple" p2) X.env) :: starEach [] X.env := by rfl) (hpl : (backTo pos (starEach [.Name "tuple" p2] X.env)).any (·.1) = false := by rfl) :
  QE X (.Call (.Name "isinstance" p) [a,.Name "tuple" p2] [] pos) (wIsi "tuple" zbN ta) := qisi_of (call_isi (fun _ _ h => by cases h; rfl) (fun _ _ h => by cases h; rfl) (fun _ h => by cases h; rfl) (fun _ _ h => by cases h; rfl) (fun _ _ h => by cases h; rfl) (fun _ => rfl) (fun _ => rfl) (fun _ => rfl)) hm hx boot_tuple ha hg hgx (by decide) (by decide) he he2 hpl
end
end L3
set_option Elab.async false
set_option linter.all false
set_option maxRecDepth 100000
set_option maxHeartbeats 4000000
namespace L2
open PySem PySem.Spec PyProof.Rows
section
variable {X : Cx} {pins : List (Addr × Obj)} {σ : St} {H : Hp} {s : Shared} {p : Addr} {u : HO} {o : Obj}
theorem Inv.freeze (I : Inv X pins σ H s) (e : H p = some u) (mu : Mut (some u)) (ho : s.heap.get? p = some o) : Inv X pins σ (upd H p (.frz o u)) s := by
 have nown : ∀ b y,H b = some (.own y) -> b ≠ p := fun b y r z => by subst z; rw [e] at r; cases r; exact mu
 have ntup : ∀ b xs,H b = some (.tup xs) -> b ≠ p := fun b y r z => by subst z; rw [e] at r; cases r; exact mu
 have ok : za2 X.prog X.w (upd H p (.frz o u)) s.heap p u := (I.hok p u e).stay (fun _ _ _ q => q) (fun b q => by rw [zah (nown b p q)]; exact q) fun b xs q => by rw [zah (ntup b xs q)]; exact q
 exact I.write (x := p) (e := p) (o := .frz o u) (t' := s.toks) (h' := s.heap) (by rw [e]; exact mu) (.inl rfl) (fun _ _ _ q => q) ⟨o,ho⟩ ⟨ho,ok⟩
theorem Inv.nofrz (I : Inv X pins σ H s) (e : H p = some u) (mu : Mut (some u)) : ∀ ob w,X.H₀ p ≠ some (.frz ob w) := fun ob w z => by
 have := I.base.frzs p ob w z
 rw [e] at this; cases this; exact mu
theorem Inv.thaw (I : Inv X pins σ H s) (e : H p = some (.frz o u)) (nf : ∀ ob w,X.H₀ p ≠ some (.frz ob w)) : Inv X pins σ (upd H p u) s := by
 have nn : ∀ b,H b = none -> b ≠ p := fun b n z => by subst z; rw [e] at n; cases n
 have no : ∀ b w,H b = some w -> (∀ ob x,w ≠ .frz ob x) -> b ≠ p := fun b w q h z => by subst z; rw [e] at q; cases q; exact h _ _ rfl
 refine ⟨I.ok,I.os,I.bare,⟨I.base.keep,I.base.slot,fun b ob q n hx => ?_,I.base.there,fun b xs q => ?_,fun b ob w q => ?_,fun b ps q => ?_⟩,I.loc,I.cell,?_,fun x c q => ?_,fun z hz => ?_,fun b w q => ?_,I.len⟩
 ·have := I.base.free b ob q n hx
  rw [zah (nn b this)]; exact this
 ·have := I.base.tups b xs q
  rw [zah (no b _ this fun _ _ z => by cases z)]; exact this
 ·have := I.base.frzs b ob w q
  rw [zah]; exact this
  rintro rfl; exact nf _ _ q
 ·obtain ⟨more,this⟩ := I.base.tbls b ps q
  exact ⟨more,by rw [zah (no b _ this fun _ _ z => by cases z)]; exact this⟩
 ·rw [zah (nn _ I.free)]; exact I.free
 ·rw [zah (nn _ (I.freeC x c q))]; exact I.freeC x c q
 ·obtain ⟨a1,a2,a3⟩ := I.pin z hz
  exact ⟨a1,by rw [zah (nn _ a2)]; exact a2,a3⟩
 ·have st : ∀ b' w',za2 X.prog X.w H s.heap b' w' -> za2 X.prog X.w (upd H p u) s.heap b' w' := fun b' w' x => x.stay (fun _ _ _ q => q)
   (fun c q => by rw [zah (no c _ q fun _ _ z => by cases z)]; exact q) fun c xs q => by rw [zah (no c _ q fun _ _ z => by cases z)]; exact q
  by_cases hb : b = p
  ·subst hb
   rw [zag] at q; cases q
   exact st _ _ (I.hok b _ e).2
  ·rw [zah hb] at q
   exact st _ _ (I.hok b _ q)
def Itd (p : Addr) (o : Obj) (vs : List V) : It := ⟨fun i H => i < vs.length /\ ∃ u,H p = some (.frz o u),fun i H x H' => H' = H /\ vs[i]? = some x,fun i H => vs.length <= i /\ ∃ u,H p = some (.frz o u)⟩
theorem turn_keys {P : Program} {w : World} {K : PySem.W.Frag} {tg : Expr} {es : Array DictEntry} {ep : Nat} {vs : List V} (p it : Addr) (o : Obj) (hx : o.ExactDict) (hd : o.data = .dict es ep) (rv : zav vs (es.toList.map (·.key))) :
  Turn P w K tg (Itd p o vs) [it] it (fun i h => h.IsKeyIter it p i es.size ep) := by
 have hlen : vs.length = es.size := by have := rv.length; simpa using this
 refine ⟨by simp,fun i h st b hb => ?_,fun i h h' st k => st.at fun o e => k it (by simp) o e,?_,?_,fun _ _ _ _ _ st q => wpAny_pyIter_keyiter st q⟩
 ·have e : b = it := by simpa using hb
  subst e
  obtain ⟨o,e,c,d⟩ := st
  exact ⟨o,e,fun v z => by rw [d] at z; cases z⟩
 ·intro X hP hw hK hc i pins s σ H E I hf st hg
  subst hP hw hK
  obtain ⟨f0,f1,f2,f3,f4,f5⟩ := hf it (by simp)
  obtain ⟨lt,u,eH⟩ := hg
  refine raw_next st ⟨o,(I.hok p _ eH).1,hx,hd⟩ (fun h' v ev st' sb => ?_) (fun ge => absurd lt (by omega)) (I.ok.hd hc)
  have I1 : Inv X pins σ H { s with heap := h' } := I.turned (t' := s.toks) (fun b o hb e => (sb.2 b hb).trans e) f0 f1 f3 f4 f5
  obtain ⟨oi,e,c,d⟩ := id st'
  obtain ⟨x,hx1,hx2⟩ : ∃ x,vs[i]? = some x /\ zaG x v := by
   obtain ⟨u',hu,ru⟩ := rv.get (x := vs[i]) (i := i) (by simp [lt])
   refine ⟨vs[i],by simp [lt],?_⟩
   rw [List.getElem?_map,Array.getElem?_toList] at hu
   rw [hu] at ev; cases ev; exact ru
  exact ⟨v,rfl,go_of (s := { s with heap := h' }) e c d (by decide) ⟨x,H,I1,hx2,⟨rfl,hx1⟩,st',fun b hb => (hf b hb).1⟩⟩
 ·intro X hP hw hK hc i pins s σ H E I hf st hg
  subst hP hw hK
  obtain ⟨f0,f1,f2,f3,f4,f5⟩ := hf it (by simp)
  obtain ⟨ge,u,eH⟩ := hg
  refine raw_next st ⟨o,(I.hok p _ eH).1,hx,hd⟩ (fun h' v ev st' sb => ?_) (fun _ h' eb => ⟨rfl,I.turned (t' := s.toks) (fun b o hb e => eb b o hb e) f0 f1 f3 f4 f5⟩) (I.ok.hd hc)
  rw [Array.getElem?_eq_none (by omega)] at ev; cases ev
end
end L2
namespace L3
open PySem PySem.Spec PyProof.Rows L2
section
variable {X : Cx} {e a b c o i l : Expr} {es : List Expr} {pos apos p p2 : Pos} {ta tb tc tv to ti tl : TE3} {t : TA3} {k : Nat} {tg : Expr} {st : Stmt}
def thawD (q : Addr) (kvs : List (Key × T)) (D : Ends3) : Ends3 :=
 ⟨fun τ G => ∃ ob,G q = some (.dF ob kvs) /\ D.nx τ (updG G q (.dK kvs)),fun v G => ∃ ob,G q = some (.dF ob kvs) /\ D.rt v (updG G q (.dK kvs)),fun τ G => ∃ ob,G q = some (.dF ob kvs) /\ D.bk τ (updG G q (.dK kvs)),fun τ G => ∃ ob,G q = some (.dF ob kvs) /\ D.ct τ (updG G q (.dK kvs))⟩
def thawT (q : Addr) (kvs : List (LK × T)) (D : Ends3) : Ends3 :=
 ⟨fun τ G => ∃ ob,G q = some (.dG ob kvs) /\ D.nx τ (updG G q (.dT kvs)),fun v G => ∃ ob,G q = some (.dG ob kvs) /\ D.rt v (updG G q (.dT kvs)),fun τ G => ∃ ob,G q = some (.dG ob kvs) /\ D.bk τ (updG G q (.dT kvs)),fun τ G => ∃ ob,G q = some (.dG ob kvs) /\ D.ct τ (updG G q (.dT kvs))⟩
def wThaw (t : TS3) : TS3 := fun D τ G => (∃ q kvs,G q = some (.dK kvs) /\ t (thawD q kvs D) τ G) ∨ ∃ q kvs,G q = some (.dT kvs) /\ t (thawT q kvs D) τ G
def thawH (q : Addr) (D : Ends) : Ends :=
 ⟨fun σ H => ∃ ob u,H q = some (.frz ob u) /\ D.nx σ (upd H q u),fun v H => ∃ ob u,H q = some (.frz ob u) /\ D.rt v (upd H q u),fun σ H => ∃ ob u,H q = some (.frz ob u) /\ D.bk σ (upd H q u),fun σ H => ∃ ob u,H q = some (.frz ob u) /\ D.ct σ (upd H q u)⟩
theorem thaw_SP {q : Addr} {D : Ends} {pins : List (Addr × Obj)} {f : Flow} {s' : Shared} (nf : ∀ ob w,X.H₀ q ≠ some (.frz ob w)) (h : SP X pins (thawH q D) f s') : SP X pins D f s' := by
 cases f with
 | next => obtain ⟨σ',H',I,ob,u,e,d⟩ := h; exact ⟨σ',_,I.thaw e nf,d⟩
 | brk => obtain ⟨σ',H',I,ob,u,e,d⟩ := h; exact ⟨σ',_,I.thaw e nf,d⟩
 | cont => obtain ⟨σ',H',I,ob,u,e,d⟩ := h; exact ⟨σ',_,I.thaw e nf,d⟩
 | ret v => obtain ⟨x,σ',H',I,r,ob,u,e,d⟩ := h; exact ⟨x,σ',_,I.thaw e nf,r,d⟩
theorem HR.thaw {K : KW} {H : Hp} {G : Gp} (r : HR K H G) {q : Addr} {ob : Obj} {u : HO} {g : GO} (e : H q = some (.frz ob u)) (m : keepF u = false) (n : ObjDen K (upd H q u) q g) : HR K (upd H q u) (updG G q g) := fun b p e' => by
 by_cases z : b = q
 ·subst z; rw [zaa] at e'; cases e'; exact n
 ·rw [zac z] at e'
  exact (r b p e').at (Kp.thaw e m) (zah z)
theorem thaw_one {K : KW} {H H' : Hp} {G' : Gp} {q : Addr} {ob : Obj} {kvs : List (Key × T)} (k : Kp H H') (r : HR K H' G') (e : G' q = some (.dF ob kvs)) : ∃ ob ks,H' q = some (.frz ob (.dK ks)) /\ Kp H' (upd H' q (.dK ks)) /\ HR K (upd H' q (.dK ks)) (updG G' q (.dK kvs)) := by
 obtain ⟨ks,e1,ds⟩ := r q _ e
 have kt : Kp H' (upd H' q (.dK ks)) := Kp.thaw e1 rfl
 exact ⟨ob,ks,e1,kt,r.thaw e1 rfl ⟨ks,zag,Ents.mono kt ds⟩⟩
theorem thaw_two {K : KW} {H H' : Hp} {G' : Gp} {q : Addr} {ob : Obj} {kvs : List (LK × T)} (k : Kp H H') (r : HR K H' G') (e : G' q = some (.dG ob kvs)) : ∃ ob u,H' q = some (.frz ob u) /\ Kp H' (upd H' q u) /\ HR K (upd H' q u) (updG G' q (.dT kvs)) := by
 obtain ⟨xs,e1,ds⟩ := r q _ e
 have kt : Kp H' (upd H' q (.ext (rawD K.P K.w q xs))) := Kp.thaw e1 rfl
 exact ⟨ob,_,e1,kt,r.thaw e1 rfl ⟨xs,zag,EntT.mono kt ds⟩⟩
theorem qthaw {t : TS3} (h : QS X st t) : QS X st (wThaw t) := by
 intro pins s σ H D I ⟨τ,G,D3,ss,r,h3,im⟩
 rcases h3 with ⟨q,kvs,eg,h3⟩ | ⟨q,kvs,eg,h3⟩
 ·obtain ⟨ks,e1,ds⟩ := r q _ eg
  have nf := I.nofrz e1 trivial
  refine thn (h pins s σ H (thawH q D) I ⟨τ,G,_,ss,r,h3,⟨?_,?_,?_,?_⟩⟩) fun f s' z => thaw_SP nf z
  ·intro τ' G' σ' H' ⟨ob0,e,d⟩ k' s' r'
   obtain ⟨ob,ks',e2,kt,rt⟩ := thaw_one k' r' e
   exact ⟨ob,_,e2,im.nx τ' _ σ' _ d (k'.trans kt) (s'.mono kt) rt⟩
  ·intro t' G' v H' ⟨ob0,e,d⟩ k' s' r'
   obtain ⟨ob,ks',e2,kt,rt⟩ := thaw_one k' r' e
   exact ⟨ob,_,e2,im.rt t' _ v _ d (k'.trans kt) (s'.mono kt) rt⟩
  ·intro τ' G' σ' H' ⟨ob0,e,d⟩ k' s' r'
   obtain ⟨ob,ks',e2,kt,rt⟩ := thaw_one k' r' e
   exact ⟨ob,_,e2,im.bk τ' _ σ' _ d (k'.trans kt) (s'.mono kt) rt⟩
  ·intro τ' G' σ' H' ⟨ob0,e,d⟩ k' s' r'
   obtain ⟨ob,ks',e2,kt,rt⟩ := thaw_one k' r' e
   exact ⟨ob,_,e2,im.ct τ' _ σ' _ d (k'.trans kt) (s'.mono kt) rt⟩
 ·obtain ⟨ks,e1,ds⟩ := r q _ eg
  have nf := I.nofrz e1 trivial
  refine thn (h pins s σ H (thawH q D) I ⟨τ,G,_,ss,r,h3,⟨?_,?_,?_,?_⟩⟩) fun f s' z => thaw_SP nf z
  ·intro τ' G' σ' H' ⟨ob0,e,d⟩ k' s' r'
   obtain ⟨ob,ks',e2,kt,rt⟩ := thaw_two k' r' e
   exact ⟨ob,_,e2,im.nx τ' _ σ' _ d (k'.trans kt) (s'.mono kt) rt⟩
  ·intro t' G' v H' ⟨ob0,e,d⟩ k' s' r'
   obtain ⟨ob,ks',e2,kt,rt⟩ := thaw_two k' r' e
   exact ⟨ob,_,e2,im.rt t' _ v _ d (k'.trans kt) (s'.mono kt) rt⟩
  ·intro τ' G' σ' H' ⟨ob0,e,d⟩ k' s' r'
   obtain ⟨ob,ks',e2,kt,rt⟩ := thaw_two k' r' e
   exact ⟨ob,_,e2,im.bk τ' _ σ' _ d (k'.trans kt) (s'.mono kt) rt⟩
  ·intro τ' G' σ' H' ⟨ob0,e,d⟩ k' s' r'
   obtain ⟨ob,ks',e2,kt,rt⟩ := thaw_two k' r' e
   exact ⟨ob,_,e2,im.ct τ' _ σ' _ d (k'.trans kt) (s'.mono kt) rt⟩
theorem itd_ok {K : KW} {H1 : Hp} {q : Addr} {ob : Obj} {vs : List V} {ts : List T} {S : Gp -> Prop} (ds : Dens K H1 vs ts) (hS : ∀ H' G',HR K H' G' -> S G' -> ∃ u,H' q = some (.frz ob u)) : ItOk K H1 (Itd q ob vs) ts S where
 go := fun j H' G' kk r hs hj => ⟨by rw [ds.length]; exact hj,hS H' G' r hs⟩
 yld := fun j H' G' y H2 kk r hs hj hy => by
  obtain ⟨e,hy⟩ := hy
  subst e
  obtain ⟨t,et,dt⟩ := (ds.mono kk).getV hy
  exact ⟨Kp.refl _,r,t,et,dt⟩
 stop := fun j H' G' kk r hs hj => ⟨by rw [ds.length]; exact hj,hS H' G' r hs⟩
def iDct (tl : TE3) : TI3 := fun τ G R => tl τ G fun x G1 => match x with
 | .ref q => (match G1 q with
  | some (.dK kvs) => ∀ ob,R (kvs.map fun kv => kT kv.1) (fun G => G q = some (.dF ob kvs)) (updG G1 q (.dF ob kvs))
  | some (.dT kvs) => ∀ ob,R (kvs.map fun kv => lkT kv.1) (fun G => G q = some (.dG ob kvs)) (updG G1 q (.dG ob kvs))
  | _ => False)
 | _ => False
theorem qi_dct (hl : QE X l tl) : QI X tg l (iDct tl) := by
 intro pins s σ H R I ⟨τ,G,Q3,st,r,h,im⟩
 refine thn (hl pins s σ H (fun v H1 => ∃ x G1,iDct (fun _ _ Q => Q x G1) τ G1 Q3 /\ Kp H H1 /\ Den X.kw H1 v x /\ HR X.kw H1 G1) I ⟨τ,G,_,st,r,h,fun x G1 v H1 h1 k1 d1 r1 => ⟨x,G1,h1,k1,d1,r1⟩⟩) fun v s1 ⟨vv,H1,I1,rv,x,G1,h1,k1,d1,r1⟩ => ?_
 unfold iDct at h1
 cases d1 with
 | ref q =>
  cases rv
  simp only at h1
  split at h1
  ·rename_i kvs eg
   obtain ⟨ks,e1,ds⟩ := r1 q _ eg
   obtain ⟨z,nd,vs,rel,o,es,ep,g1,g2,g3,g4,g5,g6⟩ := dk_of I1.hok e1
   have I2 : Inv X pins σ (upd H1 q (.frz o (.dK ks))) s1 := I1.freeze e1 trivial g1
   have kf : Kp H1 (upd H1 q (.frz o (.dK ks))) := Kp.mut (by rw [e1]; trivial)
   have r2 : HR X.kw (upd H1 q (.frz o (.dK ks))) (updG G1 q (.dF o kvs)) := r1.put eg ⟨ks,zag,Ents.mono kf ds⟩
   refine raw_iter nd ⟨o,g1,g2,g3⟩ ⟨_,[_],_,Itd q o (ks.map fun x => kV x.1),_,rfl,I2.kept (t' := s1.toks) fun b o e => Heap.get?_push_of_some _ e,turn_keys q _ o g2 g3 (vals_keys g5 rel),⟨_,Heap.get?_push_size _ rfl,rfl,rfl⟩,fun b hb => ?_,im _ _ _ _ _ (h1 o) (k1.trans kf) r2 (itd_ok ((dens_keys ds).mono kf) fun H' G' r' hs => ?_)⟩
   ·obtain rfl := List.mem_singleton.mp hb
    exact I2.fpOk (Nat.le_refl _) (I2.hok.fresh (Nat.le_refl _))
   ·obtain ⟨ks',e',_⟩ := r' q _ hs
    exact ⟨_,e'⟩
  ·rename_i kvs eg
   obtain ⟨xs,e1,ds⟩ := r1 q _ eg
   obtain ⟨⟨nd,sz,oks,nod,o,es,ep,g1,g2,g3,g4⟩,_,_⟩ := I1.hok q _ e1
   have I2 : Inv X pins σ (upd H1 q (.frz o (.ext (rawD X.prog X.w q xs)))) s1 := I1.freeze e1 trivial g1
   have kf : Kp H1 (upd H1 q (.frz o (.ext (rawD X.prog X.w q xs)))) := Kp.mut (by rw [e1]; trivial)
   have r2 : HR X.kw (upd H1 q (.frz o (.ext (rawD X.prog X.w q xs)))) (updG G1 q (.dG o kvs)) := r1.put eg ⟨xs,zag,EntT.mono kf ds⟩
   refine raw_iter nd ⟨o,g1,g2,g3⟩ ⟨_,[_],_,Itd q o (xs.map fun x => V.ref x.2.1),_,rfl,I2.kept (t' := s1.toks) fun b o e => Heap.get?_push_of_some _ e,turn_keys q _ o g2 g3 (by rw [g4]; exact vals_keysT xs),⟨_,Heap.get?_push_size _ rfl,rfl,rfl⟩,fun b hb => ?_,im _ _ _ _ _ (h1 o) (k1.trans kf) r2 (itd_ok ((dens_keysT ds).mono kf) fun H' G' r' hs => ?_)⟩
   ·obtain rfl := List.mem_singleton.mp hb
    exact I2.fpOk (Nat.le_refl _) (I2.hok.fresh (Nat.le_refl _))
   ·obtain ⟨ks',e',_⟩ := r' q _ hs
    exact ⟨_,e'⟩
  ·exact h1.elim
 | _ => exact False.elim h1
end
end L3
set_option Elab.async false
set_option linter.all false
set_option maxRecDepth 100000
set_option maxHeartbeats 4000000
namespace L2
open PySem PySem.Spec PyProof.Rows
open AutoSeq1 (wpAny_loadPart')
section
variable {prog : Program} {w : World} {A : Around} {E : Value -> Shared -> Prop} {s : Shared}
theorem nxT_go {ti tp : Addr} {j : Nat} {vs : Array Value} {v : Value} {Q : Value -> Shared -> Prop} (a : s.heap.IsTupleIter ti tp j) (b : s.heap.IsTuple tp vs) (c : vs[j]? = some v)
  (q : ∀ g,g.IsTupleIter ti tp (j + 1) -> Heap.SameBut ti s.heap g -> Q v { s with heap := g }) : wpAny (model prog w) A (Builtin.SmallTypes.nextOf (.ref ti)) Q E s := by
 obtain ⟨oi,a1,a2,a3⟩ := id a
 obtain ⟨ot,b1,_,nt,b3⟩ := b
 unfold Builtin.SmallTypes.nextOf
 refine wpAny_bind (wpAny_callSpecial?_slot (name := Str.ofString "__next__") a.typeIs F.slot_tuple_iterator_next (wpAny_call_entry F.slot_tuple_iterator_next a.typeIs F.entry_tuple_iterator_next ?go (F.args_tuple_iterator_next_1 _)))
 change wpAny _ _ (field (.ref ti) 0 >>= fun _ => _) _ _ s
 refine wpAny_bind (wpAny_field a1 a3 (x := .ref tp) rfl ?_)
 change wpAny _ _ (if (Value.ref tp == Value.none) = true then _ else _) _ _ s
 rw [if_neg (show ¬ ((Value.ref tp == Value.none) = true) from Bool.false_ne_true)]
 change wpAny _ _ (field (.ref ti) 1 >>= fun _ => _) _ _ s
 refine wpAny_bind (wpAny_field a1 a3 (x := .int j 0) rfl ?_)
 change wpAny _ _ (seqItems? (.ref tp) >>= fun _ => _) _ _ s
 refine wpAny_bind (wpAny_seqItems b1 b3 ?_)
 simp only [Int.toNat_natCast,c]
 refine wpAny_bind (wpAny_setField a1 a3 (by simp) (wpAny_pure ⟨v,rfl,wpAny_pure (q _ ?here (Heap.SameBut.update ..))⟩))
 refine ⟨_,Heap.get?_update_self _ a1 (Obj.isFreed_of_fields (Obj.data_mapFields a3 _)),(Obj.cls_mapFields ..).trans a2,?_⟩
 rw [Obj.data_mapFields a3]; simp [rawInt]
theorem nxT_end {ti tp : Addr} {j : Nat} {vs : Array Value} {Q : Value -> Shared -> Prop} (hh : A.handled = none) (a : s.heap.IsTupleIter ti tp j) (b : s.heap.IsTuple tp vs) (c : vs[j]? = none)
  (q : ∀ g x,Heap.ExtBut ti s.heap g -> (∃ ob,g.get? x = some ob /\ ob.cls = .type "StopIteration") -> E (.ref x) { s with heap := g }) : wpAny (model prog w) A (Builtin.SmallTypes.nextOf (.ref ti)) Q E s := by
 obtain ⟨oi,a1,a2,a3⟩ := id a
 obtain ⟨ot,b1,_,nt,b3⟩ := b
 unfold Builtin.SmallTypes.nextOf
 refine wpAny_bind (wpAny_callSpecial?_slot (name := Str.ofString "__next__") a.typeIs F.slot_tuple_iterator_next (wpAny_call_entry F.slot_tuple_iterator_next a.typeIs F.entry_tuple_iterator_next ?go (F.args_tuple_iterator_next_1 _)))
 change wpAny _ _ (field (.ref ti) 0 >>= fun _ => _) _ _ s
 refine wpAny_bind (wpAny_field a1 a3 (x := .ref tp) rfl ?_)
 change wpAny _ _ (if (Value.ref tp == Value.none) = true then _ else _) _ _ s
 rw [if_neg (show ¬ ((Value.ref tp == Value.none) = true) from Bool.false_ne_true)]
 change wpAny _ _ (field (.ref ti) 1 >>= fun _ => _) _ _ s
 refine wpAny_bind (wpAny_field a1 a3 (x := .int j 0) rfl ?_)
 change wpAny _ _ (seqItems? (.ref tp) >>= fun _ => _) _ _ s
 refine wpAny_bind (wpAny_seqItems b1 b3 ?_)
 simp only [Int.toNat_natCast,c]
 refine wpAny_bind (wpAny_rule (wpAny_bind (wpAny_setField a1 a3 (by simp) ?nx)))
 change wpAny _ _ (newExc (.type "StopIteration") [] >>= fun _ => _) _ _ _
 simp only [newExc,newTuple,raiseNew]
 refine wpAny_bind (wpAny_bind (wpAny_newObj_type (wpAny_bind (m := firstArgMember _ _) (wpAny_of_eq (a := Value.none) (by first | rfl | (simp only [firstArgMember]; rfl)) (wpAny_newObj_type ?raise (by size_fits)))) (by size_fits)))
 refine wpAny_bind (wpAny_handled ?hd)
 rw [show A.in1.handled = none from hh]
 exact wpAny_bind (wpAny_pure (wpAny_throw (q _ _ (((Heap.SameBut.update ..).extBut.push _).push _) ⟨_,Heap.get?_push_size _ rfl,rfl⟩)))
theorem drawsT (hh : A.handled = none) (ti tp : Addr) (ne : tp ≠ ti) (vs : Array Value) : Draws prog w A ti [ti,tp] vs.size (fun j v => vs[j]? = some v) (fun j g => g.IsTupleIter ti tp j /\ g.IsTuple tp vs) :=
 ⟨fun _ _ st => let ⟨o,e,_⟩ := st.1; ⟨o,e⟩,
  fun _ _ _ st k => ⟨st.1.at fun o e => k ti (by simp) o e,let ⟨o,e,r⟩ := st.2; ⟨o,k tp (by simp) o e,r⟩⟩,
  fun j s Q E lt st q => nxT_go st.1 st.2 (v := vs[j]) (by simp [lt]) fun g st' sb => q _ g s.toks (by simp [lt]) ⟨st',st.2.extBut sb.extBut ne⟩ sb,
  fun s Q E st q => nxT_end hh st.1 st.2 (by simp) q⟩
theorem mk_enumT (tp : Addr) (vs : Array Value) (n : Nat) (dct : Option Addr) (sl : Array (Option Value)) :
  Meets (Builtin.«enumerate.__new__» ⟨[.type "enumerate",.ref tp],[]⟩) (fun _ R s => s.heap.get? tp = some { cls := .type "tuple",dict := dct,data := .seq vs n,slots := sl } /\
   R (.ok (.ret (.ref (s.heap.push { cls := .type "tuple_iterator",data := .fields #[.ref tp,.int 0 0] }).objs.size)))
    { s with heap := (s.heap.push { cls := .type "tuple_iterator",data := .fields #[.ref tp,.int 0 0] }).push { cls := .type "enumerate",data := .fields #[.none,.bool false,.ref s.heap.objs.size,rawInt 0,.none,.none] } }) :=
 .of_wp fun prog w A R s q => by
  obtain ⟨hp,g,d,tk,os⟩ := s; obtain ⟨e,q⟩ := q
  have hsub := sub_enumerate
  have isT : Heap.IsTuple (Shared.heap ⟨hp,g,d,tk,os⟩) tp vs := ⟨_,e,rfl,n,rfl⟩
  wp_walk using wpAny_loadPart' e
  refine wpAny_stack_any fun st => wpAny_pure ?fr
  split
  ·rename_i cc _ _ _ _ _
   cases (cc == Value.type "enumerate") <;> (wp_walk using wpAny_loadPart' e,wpAny_pyIter_tuple isT; exact ⟨_,rfl,q⟩)
  ·wp_walk using wpAny_loadPart' e,wpAny_pyIter_tuple isT
   exact ⟨_,rfl,q⟩
theorem call_enumT {tp : Addr} {vs : Array Value} {Q : Value -> Shared -> Prop} (isT : s.heap.IsTuple tp vs)
  (q : ∀ g,IsEnum g (s.heap.objs.size + 1) s.heap.objs.size 0 .none -> g.IsTupleIter s.heap.objs.size tp 0 -> (∀ b o,s.heap.get? b = some o -> g.get? b = some o) -> Q (.ref (s.heap.objs.size + 1)) { s with heap := g }) :
  wpAny (model prog w) A (call (.type "enumerate") [.ref tp]) Q E s := by
 obtain ⟨⟨c,dct,dt,sl⟩,e1,e2,n,e3⟩ := isT
 cases (show c = .type "tuple" from e2)
 cases (show dt = .seq vs n from e3)
 refine callType_new F.called_enumerate (by decide) (F.typeCall_enumerate_1 _) (F.newCall_enumerate_1 _) (fun obj => F.args_object_init_2 obj _) F.entry_enumerate_new (mk_enumT tp vs n dct sl) ⟨e1,?_⟩
 have z : (s.heap.push { cls := .type "tuple_iterator",data := .fields #[.ref tp,.int 0 0] }).objs.size = s.heap.objs.size + 1 := Heap.size_push ..
 change _ /\ _
 rw [z]
 have at1 : IsEnum ((s.heap.push { cls := .type "tuple_iterator",data := .fields #[.ref tp,.int 0 0] }).push { cls := .type "enumerate",data := .fields #[.none,.bool false,.ref s.heap.objs.size,rawInt 0,.none,.none] })
   (s.heap.objs.size + 1) s.heap.objs.size 0 .none := by
  have := Heap.get?_push_size (s.heap.push { cls := .type "tuple_iterator",data := .fields #[.ref tp,.int 0 0] }) (o := { cls := .type "enumerate",data := .fields #[.none,.bool false,.ref s.heap.objs.size,rawInt 0,.none,.none] }) rfl
  rwa [z] at this
 exact ⟨⟨_,at1,rfl⟩,q _ at1 ⟨_,Heap.get?_push_of_some _ (Heap.get?_push_size _ rfl),rfl,rfl⟩ fun b o x => Heap.get?_push_of_some _ (Heap.get?_push_of_some _ x)⟩
end
section
variable {X : Cx} {pins : List (Addr × Obj)} {σ : St} {H : Hp} {s : Shared} {h' : Heap} {ch : List Addr} {t' : Nat}
theorem Inv.turns (I : Inv X pins σ H s) (k : ∀ b o,b ∉ ch -> s.heap.get? b = some o -> h'.get? b = some o) (hf : ∀ b ∈ ch,FpOk X pins H b) : Inv X pins σ H { s with heap := h',toks := t' } := by
 refine I.step (g' := s.gens) (d' := s.drawn) (ch := ch) (fun b hb => ?_) (fun b o _ _ hc e _ => k b o hc e) (fun b o _ _ hc e _ => ⟨o.slots,k b o hc e⟩) (fun _ _ _ _ n => n)
  (fun b o hc e => ⟨o,k b o hc e⟩) (fun _ _ e => e) (fun _ _ _ e => e) (fun b ps e => ⟨#[],by rw [e]; simp⟩) (fun m hm => ?_) (fun b u e => ?_) I.bare
 ·obtain ⟨f0,f1,f2,f3,f4,f5⟩ := hf b hb
  exact ⟨f3,f1,f4,f5⟩
 ·obtain ⟨o,es,ep,ho,r⟩ := hm
  exact ⟨o,es,ep,k _ o (fun z => (hf _ z).2.1 rfl) ho,r⟩
 ·have nc : ∀ c u,H c = some u -> c ∉ ch := fun c u q z => by rw [(hf c z).1] at q; cases q
  refine (I.hok b u e).stay (fun c v hc q => k c v ?_ q) (fun _ q => q) fun _ _ q => q
  rcases hc with z | z
  ·rw [z]; exact nc b u e
  ·exact nc c _ z
theorem Inv.turnsNew {T : Addr} {o : HO} (I : Inv X pins σ H s) (k : ∀ b o,b ∉ ch -> s.heap.get? b = some o -> h'.get? b = some o) (hf : ∀ b ∈ ch,FpOk X pins H b) (hT : s.heap.objs.size <= T) (new : za2 X.prog X.w (upd H T o) h' T o) :
  Inv X pins σ (upd H T o) { s with heap := h',toks := t' } := by
 have hn := I.hok.fresh hT
 have lt : ∀ b ob,s.heap.get? b = some ob -> b ≠ T := fun b ob q => Nat.ne_of_lt (Nat.lt_of_lt_of_le (Heap.lt_size q) hT)
 refine I.step (g' := s.gens) (d' := s.drawn) (ch := ch) (fun b hb => ?_) (fun b o _ _ hc e _ => k b o hc e) (fun b o _ _ hc e _ => ⟨o.slots,k b o hc e⟩) (fun b ob _ q n => by rw [zah (lt b ob q)]; exact n)
  (fun b o hc e => ⟨o,k b o hc e⟩) (fun b xs q => by rw [zah (zao q hn)]; exact q) (fun b ob xs q => by rw [zah (zao q hn)]; exact q) (fun b ps q => ⟨#[],by rw [zah (zao q hn),q]; simp⟩) (fun m hm => ?_) (fun b u e => ?_) I.bare
 ·obtain ⟨f0,f1,f2,f3,f4,f5⟩ := hf b hb
  exact ⟨f3,f1,f4,f5⟩
 ·obtain ⟨o,es,ep,ho,r⟩ := hm
  exact ⟨o,es,ep,k _ o (fun z => (hf _ z).2.1 rfl) ho,r⟩
 ·have nc : ∀ c u,H c = some u -> c ∉ ch := fun c u q z => by rw [(hf c z).1] at q; cases q
  by_cases hb : b = T
  ·subst hb; rw [zag] at e; cases e; exact new
  ·rw [zah hb] at e
   refine (I.hok b u e).stay (fun c v hc q => k c v ?_ q) (fun c q => by rw [zah (zao q hn)]; exact q) fun c xs q => by rw [zah (zao q hn)]; exact q
   rcases hc with z | z
   ·rw [z]; exact nc b u e
   ·exact nc c _ z
end
def Ite (K : PySem.W.Frag) (a : Addr) : It :=
 ⟨fun i H => ∃ xs x,SqT K H a xs /\ xs[i]? = some x,fun i H x H' => ∃ y t,(∀ xs,SqT K H a xs -> xs[i]? = some y) /\ H t = none /\ x = .ref t /\ H' = upd H t (.tup [.int i,y]),fun i H => ∃ xs,SqT K H a xs /\ xs.length <= i⟩
theorem turn_enumT {P : Program} {w : World} {K : PySem.W.Frag} {els : List Expr} {kk : Nat} {pos : Pos} (a e ti : Addr) (ne : e ≠ ti) : Turn P w K (.Tuple els kk pos) (Ite K a) [e,ti] e (fun i h => (∃ old,IsEnum h e ti i old) /\ h.IsTupleIter ti a i) := by
 refine ⟨by simp,fun i h st b hb => ?_,fun i h h' st k => ?_,?_,?_,fun A i s Q E st q => ?_⟩
 ·obtain ⟨⟨old,st1⟩,o,e2,c,d⟩ := st
  rcases List.mem_cons.mp hb with z | z
  ·subst z; exact ⟨_,st1,fun v z => by have z' : Data.fields _ = Data.cell v := z; cases z'⟩
  ·obtain rfl := List.mem_singleton.mp z
   exact ⟨o,e2,fun v z => by rw [d] at z; cases z⟩
 ·obtain ⟨⟨old,st1⟩,st2⟩ := st
  exact ⟨⟨old,k e (by simp) _ st1⟩,st2.at fun o q => k ti (by simp) o q⟩
 ·intro X hP hw hK hc i pins s σ H E I hf st hg
  subst hP hw hK
  obtain ⟨⟨old,st1⟩,st2⟩ := st
  obtain ⟨xs,x,hq,hx⟩ := hg
  obtain ⟨its,rv,pt,hz⟩ := I.tuple hq
  obtain ⟨u,hu,ru⟩ := rv.get hx
  have hlt : i < its.toArray.size := by
   obtain ⟨h1,_⟩ := List.getElem?_eq_some_iff.mp hu
   simpa using h1
  have nea : a ≠ ti := by
   rintro rfl
   obtain ⟨o,e1,e2,_⟩ := id st2
   obtain ⟨o',e1',e2',_⟩ := id pt
   rw [e1] at e1'; cases e1'; rw [e2] at e2'; exact absurd e2' (by decide)
  have neb : a ≠ e := by
   rintro rfl
   obtain ⟨o',e1',e2',_⟩ := id pt
   have st1' : s.heap.get? a = some _ := st1
   rw [st1'] at e1'; cases e1'; exact absurd (show Value.type "enumerate" = Value.type "tuple" from e2') (by decide)
  have D := drawsT (prog := X.prog) (w := X.w) (A := X.A.in1) (show X.A.in1.handled = none from I.ok.hd hc) ti a nea its.toArray
  refine wpAny_pyNext_enum_itemD D st1 ⟨st2,pt⟩ hlt ne (by simp [ne,Ne.symm neb]) fun v h' tk hv eo st' et hs hk => ⟨_,rfl,?_⟩
  have hvu : v = u := by
   have hv' : its.toArray[i]? = some v := hv
   rw [List.getElem?_toArray,hu] at hv'
   exact (Option.some.inj hv').symm
  subst hvu
  obtain ⟨f0,f1,f2,f3,f4,f5⟩ := hf e (by simp)
  obtain ⟨g0,g1,g2,g3,g4,g5⟩ := hf ti (by simp)
  refine wpAny_letOwnedTupleGo_enum eo fun h2 e2 sb => ?_
  have hTe : s.heap.objs.size ≠ e := Nat.ne_of_gt (Heap.lt_size st1)
  have hTi : s.heap.objs.size ≠ ti := by obtain ⟨o,q,_⟩ := id st2; exact Nat.ne_of_gt (Heap.lt_size q)
  have kk2 : ∀ b o,b ≠ e -> b ≠ ti -> s.heap.get? b = some o -> h2.get? b = some o := fun b o n1 n2 q => (sb.2 b n1).trans (hk b o n1 n2 q)
  have et2 : h2.get? s.heap.objs.size = some { cls := .type "tuple",data := .seq #[.int i tk,v] } := (sb.2 _ hTe).trans et
  have hn := I.hok.fresh (Nat.le_refl _)
  have new : za2 X.prog X.w (upd H s.heap.objs.size (.tup [.int i,x])) h2 s.heap.objs.size (.tup [.int i,x]) :=
   ⟨by show 2 <= sizeLine; rw [sizeLine_eq]; decide,[.int i tk,v],.cons ⟨tk,rfl⟩ (.cons ru .nil),⟨_,et2,rfl,_,rfl⟩⟩
  have I2 := I.turnsNew (t' := tk + 1) (ch := [e,ti]) (h' := h2) (fun b o nb q => kk2 b o (fun z => nb (by simp [z])) (fun z => nb (by simp [z])) q) hf (Nat.le_refl _) new
  refine ⟨.ref s.heap.objs.size,_,I2,rfl,⟨x,_,fun ys hy => by rw [I.tuple_inj hy hq]; exact hx,hn,rfl,rfl⟩,⟨⟨_,by simpa using e2⟩,?_⟩,fun b hb => ?_⟩
  ·obtain ⟨o,q,r⟩ := st'.1
   exact ⟨o,(sb.2 ti (Ne.symm ne)).trans q,r⟩
  ·rcases List.mem_cons.mp hb with z | z
   ·subst z; rw [zah (Ne.symm hTe)]; exact f0
   ·obtain rfl := List.mem_singleton.mp z
    rw [zah (Ne.symm hTi)]; exact g0
 ·intro X hP hw hK hc i pins s σ H E I hf st hg
  subst hP hw hK
  obtain ⟨⟨old,st1⟩,st2⟩ := st
  obtain ⟨xs,hq,hx⟩ := hg
  obtain ⟨its,rv,pt,hz⟩ := I.tuple hq
  have hl := rv.length
  have nea : a ≠ ti := by
   rintro rfl
   obtain ⟨o,e1,e2,_⟩ := id st2
   obtain ⟨o',e1',e2',_⟩ := id pt
   rw [e1] at e1'; cases e1'; rw [e2] at e2'; exact absurd e2' (by decide)
  have D : Draws X.prog X.w X.A.in1 ti [ti,a] i (fun _ _ => False) (fun j g => j = i /\ g.IsTupleIter ti a i /\ g.IsTuple a its.toArray) :=
   ⟨fun _ _ st => let ⟨o,e,_⟩ := st.2.1; ⟨o,e⟩,
     fun _ _ _ st k => ⟨st.1,st.2.1.at fun o e => k ti (by simp) o e,let ⟨o,e,r⟩ := st.2.2; ⟨o,k a (by simp) o e,r⟩⟩,
     fun j s Q E lt st q => absurd st.1 (Nat.ne_of_lt lt),
     fun s Q E st q => nxT_end (I.ok.hd hc) st.2.1 st.2.2 (by simp; omega) q⟩
  exact wpAny_pyNext_enum_endD D st1 ⟨rfl,st2,pt⟩ fun h' eb => ⟨rfl,I.turns (t' := s.toks) (ch := [e,ti]) (fun b o nb q => eb b o (fun z => nb (by simp [z])) q) hf⟩
 ·obtain ⟨⟨old,st1⟩,_⟩ := st
  exact wpAny_pyIter_enum st1 q
end L2
namespace L3
open PySem PySem.Spec PyProof.Rows L2
section
variable {X : Cx} {a : Expr} {pos p tpos : Pos} {t : TA3} {els : List Expr} {kk : Nat}
def zbR (ts : List T) : List T := (List.range ts.length).map fun (i : Nat) => T.tup [.int i,ts.getD i .non]
theorem enumT_get {ts : List T} {i : Nat} {t : T} (h : ts[i]? = some t) : (zbR ts)[i]? = some (.tup [.int i,t]) := by
 obtain ⟨h1,h2⟩ := List.getElem?_eq_some_iff.mp h
 unfold zbR
 rw [List.getElem?_map,List.getElem?_range h1]
 simp [h]
def iEnum (t : TA3) : TI3 := fun τ G R => t τ G fun ts G1 => match ts with
 | [.tup us] => R (zbR us) (fun _ => True) G1
 | _ => False
theorem qi_enum (hm : X.mg "enumerate" = none) (ha : QA X [a] t) (hg : Gl X "enumerate" := by rfl) (hs : starEach [a] X.env = [(false,eval a X.env)] := by rfl) : QI X (.Tuple els kk tpos) (.Call (.Name "enumerate" p) [a] [] pos) (iEnum t) := by
 intro pins s σ H R I ⟨τ,G,Q3,st,r,h,im⟩
 refine Call_ (ld_blt I hg hm boot_enumerate (PyProof.Rows.callWith_type1 (thn (ha pos pins s σ H (fun vs H1 => ∃ ts G1,(match ts with
  | [.tup us] => Q3 (zbR us) (fun _ => True) G1
  | _ => False) /\ Kp H H1 /\ Dens X.kw H1 vs ts /\ HR X.kw H1 G1) I ⟨τ,G,_,st,r,h,fun ts G1 vs H1 h1 k1 d1 r1 => ⟨ts,G1,h1,k1,d1,r1⟩⟩) fun us s1 ⟨vs,H1,I1,rv,ts,G1,h1,k1,d1,r1⟩ => ?_) hs rfl))
 split at h1
 ·rename_i us'
  cases d1 with
  | cons d d2 =>
   cases d2
   cases d with
   | tup q ds =>
    rename_i a' xs
    cases rv with
    | cons rv0 rv1 =>
     cases rv1
     cases rv0
     obtain ⟨its,rr,pt,hz⟩ := I1.tuple q
     refine call_enumT (show s1.heap.IsTuple a' its.toArray from pt) fun g e1 e2 kp => ?_
     have I2 : Inv X pins σ H1 { s1 with heap := g } := I1.kept (t' := s1.toks) kp
     refine wpAny_pyIter_enum (s := { s1 with heap := g }) e1 ⟨_,[s1.heap.objs.size + 1,s1.heap.objs.size],_,Ite X.K a',H1,rfl,I2,turn_enumT a' _ _ (Nat.succ_ne_self _),⟨⟨_,e1⟩,e2⟩,fun b hb => ?_,im _ _ G1 _ H1 h1 k1 r1 ⟨fun j H2 G2 kk _ _ hj => ?_,fun j H2 G2 y H3 kk r2 _ hj hy => ?_,fun j H2 G2 kk _ _ hj => ?_⟩⟩
     ·have fr : H1 b = none := by
       rcases List.mem_cons.mp hb with z | z
       ·subst z; exact I1.hok.fresh (Nat.le_succ _)
       ·obtain rfl := List.mem_singleton.mp z
        exact I1.hok.fresh (Nat.le_refl _)
      rcases List.mem_cons.mp hb with z | z
      ·subst z; exact I1.fpOk (Nat.le_succ _) fr
      ·obtain rfl := List.mem_singleton.mp z
       exact I1.fpOk (Nat.le_refl _) fr
     ·have hj' : j < xs.length := by rw [ds.length]; simpa [zbR] using hj
      exact ⟨xs,xs[j],kk.sqT q,by simp [hj']⟩
     ·obtain ⟨y',t',hy1,hn,e,e'⟩ := hy
      subst e; subst e'
      obtain ⟨tt,et,dt⟩ := (ds.mono kk).getV (hy1 xs (kk.sqT q))
      exact ⟨Kp.new hn,r2.lay hn,_,enumT_get et,.tup (SqT.of zag) (.cons (.int _) (.cons (dt.mono (Kp.new hn)) .nil))⟩
     ·exact ⟨xs,kk.sqT q,by rw [ds.length]; simpa [zbR] using hj⟩
 ·exact h1.elim
end
end L3
set_option Elab.async false
set_option linter.all false
set_option maxRecDepth 100000
set_option maxHeartbeats 4000000
namespace L2
open PySem PySem.Spec PyProof.Rows
section
variable {prog : Program} {w : World} {A : Around} {E : Value -> Shared -> Prop} {s : Shared}
theorem sorted_of {a : Value} {vs : List Value} {ns : List Int} {Q : Value -> Shared -> Prop} (hI : IntsAre vs ns) (h64 : vs.length < 64)
  (hc : ∀ (A' : Around) (E' : Value -> Shared -> Prop) (Q' : List Value -> Shared -> Prop),A'.handled = A.handled -> (∀ h' tk,(∀ b o,s.heap.get? b = some o -> h'.get? b = some o) -> Q' vs { s with heap := h',toks := tk }) -> wpAny (model prog w) A' (collect a) Q' E' s)
  (h : ∀ (h1 h' : Heap) (tk : Nat) (p : Addr) (e : Nat) (out : List Value) (ns' : List Int),(∀ b o,s.heap.get? b = some o -> h1.get? b = some o) -> (∀ b o,h1.get? b = some o -> h'.get? b = some o) -> h1.objs.size <= p -> h'.get? p = some (seqObj "list" out.toArray e) -> IntsAre out ns' -> ns'.Perm ns -> ns'.Pairwise (· <= ·) -> Q (.ref p) { s with heap := h',toks := tk }) :
  wpAny (model prog w) A (call (.builtin "sorted") [a]) Q E s := by
 refine Calls.call_function_entry kind_sorted plain_sorted entry_sorted (args_sorted1 _) ?_
 unfold Builtin.«sorted»
 refine wpAny_bind (m := checkCount "sorted" 1 1 _) (wpAny_pure ?_)
 refine wpAny_bind (hc _ _ _ rfl fun h1 tk k1 => ?_)
 refine wpAny_bind (wpAny_newList ?_ (by rw [sizeLine_eq]; omega))
 have hoL : (h1.push (seqObj "list" vs.toArray 0)).get? h1.objs.size = some (seqObj "list" vs.toArray 0) := Heap.get?_push_size _ rfl
 refine wpAny_bind (wpAny_holding (wpAny_call_entry (s := { s with heap := h1.push (seqObj "list" vs.toArray 0),toks := tk }) slot_list_sort ⟨_,hoL,rfl⟩ entry_list_sort (list_sort_tree hoL hI h64 fun out ns' a1 a2 a3 => ⟨_,rfl,?_⟩) (args_list_sort _)))
 refine wpAny_pure ⟨_,rfl,?_⟩
 obtain ⟨e,he⟩ := sortedHeap_at (out := out) hoL
 refine h h1 _ tk _ e out.toList ns' k1 (fun b o q1 => ?_) (Nat.le_refl _) (by simpa using he) a1 a2 a3
 have lt := Heap.lt_size q1
 rw [sortedHeap_old (Nat.ne_of_lt lt) (by rw [Heap.size_push]; exact Nat.lt_succ_of_lt lt)]
 exact Heap.get?_push_of_some _ q1
end
end L2
namespace L3
open PySem PySem.Spec PyProof.Rows L2
section
variable {X : Cx} {e a b c o i l : Expr} {es : List Expr} {pos apos p p2 : Pos} {ta tb tc tv to ti tl : TE3} {t : TA3} {k : Nat} {tg : Expr} {st : Stmt}
theorem qgt (ha : QE X a ta) (hb : QE X b tb) : QE X (.Compare a [.Gt] [b] pos) (wOp (iI0 fun i j => .bl (decide (j < i))) ta tb) := qcmp op_gt (lI0 fun _ _ _ => .bl _) ha hb
def wNotT (ta : TE3) : TE3 := fun τ G Q => ta τ G fun x G1 => match truT x G1 with
 | some b => Q (.bl (!b)) G1
 | none => False
def lenA3 : List T -> Gp -> VK3 -> Prop := fun ts G Q => match ts with
 | [.tup us] => Q (.int us.length) G
 | [.fro us] => Q (.int us.length) G
 | [.ref q] => (match G q with
  | some (.lst us) => Q (.int us.length) G
  | some (.dK kvs) => Q (.int kvs.length) G
  | _ => False)
 | _ => False
theorem qlenA (hm : X.mg "len" = none) (ha : QA X (e :: es) t) (hg : Gl X "len" := by rfl) (he : starEach (e :: es) X.env = (false,eval e X.env) :: starEach es X.env := by rfl) (hpl : (backTo pos (starEach es X.env)).any (·.1) = false := by rfl) :
  QE X (.Call (.Name "len" p) (e :: es) [] pos) (wCB lenA3 t) := qcallB (zbG.or call_len_seq call_lenD) (fun H G xs ts Q Q3 d r h im => by
 unfold lenA3 at h
 split at h
 ·cases d with
  | cons d1 d2 =>
   cases d2
   cases d1 with
   | tup q ds => exact .inl ⟨_,_,rfl,.inr q,im _ G _ H (by rw [ds.length]; exact h) (Kp.refl _) (.int _) r⟩
 ·cases d with
  | cons d1 d2 =>
   cases d2
   cases d1 with
   | fro q ds => exact .inl ⟨_,_,rfl,.inl q.sq,im _ G _ H (by rw [ds.length]; exact h) (Kp.refl _) (.int _) r⟩
 ·cases d with
  | cons d1 d2 =>
   cases d2
   cases d1
   split at h
   ·rename_i us eg
    obtain ⟨xs,e1,ds⟩ := r _ _ eg
    exact .inl ⟨_,xs,rfl,.inl (SqL.of e1),im _ G _ H (by rw [ds.length]; exact h) (Kp.refl _) (.int _) r⟩
   ·rename_i kvs eg
    obtain ⟨ks,e1,ds⟩ := r _ _ eg
    exact .inr ⟨_,ks,rfl,e1,im _ G _ H (by rw [Paired.length ds]; exact h) (Kp.refl _) (.int _) r⟩
   ·exact h.elim
 ·exact h.elim) hm boot_len ha hg (by decide) (by decide) he hpl
def intsOf : List T -> Option (List Int)
 | [] => some []
 | .int n :: r => (intsOf r).map (n :: ·)
 | _ :: _ => none
theorem intsOf_eq : ∀ {ts : List T} {ns : List Int},intsOf ts = some ns -> ts = ns.map T.int
 | [],ns,h => by cases h; rfl
 | .int n :: r,ns,h => by
  simp only [intsOf,Option.map_eq_some_iff] at h
  obtain ⟨ms,h1,rfl⟩ := h
  rw [intsOf_eq h1]; rfl
 | .non :: _,_,h => by cases h
 | .bl _ :: _,_,h => by cases h
 | .str _ :: _,_,h => by cases h
 | .ref _ :: _,_,h => by cases h
 | .tup _ :: _,_,h => by cases h
 | .fro _ :: _,_,h => by cases h
 | .ty _ :: _,_,h => by cases h
theorem intsOf_map : ∀ (ns : List Int),intsOf (ns.map T.int) = some ns
 | [] => rfl
 | n :: r => by simp [intsOf,intsOf_map r]
theorem dens_ints {K : KW} {H : Hp} : ∀ {vs : List V} {ns : List Int},Dens K H vs (ns.map T.int) -> vs = ns.map V.int
 | _,[],.nil => rfl
 | _,n :: r,.cons d ds => by cases d; rw [dens_ints ds]; rfl
theorem vals_of_ints : ∀ {ns : List Int} {us : List Value},zav (ns.map V.int) us -> IntsAre us ns
 | [],_,.nil => .nil
 | n :: r,_,.cons ⟨t,e⟩ rr => by subst e; exact .cons n t (vals_of_ints rr)
def sortI (ns : List Int) : List Int := ns.mergeSort fun a b => decide (a <= b)
theorem sortI_perm (ns : List Int) : (sortI ns).Perm ns := List.mergeSort_perm _ _
theorem sortI_le (ns : List Int) : (sortI ns).Pairwise (· <= ·) := by
 have := List.pairwise_mergeSort (le := fun a b : Int => decide (a <= b)) (fun a b c => by simp; omega) (fun a b => by simp; omega) ns
 exact this.imp fun h => by simpa using h
theorem sortI_eq {ms ns : List Int} (p : ms.Perm ns) (s : ms.Pairwise (· <= ·)) : ms = sortI ns :=
 (p.trans (sortI_perm ns).symm).eq_of_pairwise (le := fun a b => a <= b) (fun a b _ _ h1 h2 => by omega) s (sortI_le ns)
def srt3 : List T -> Gp -> VK3 -> Prop := fun ts G Q => match ts with
 | [.ref q] => (match G q with
  | some (.lst us) => (match intsOf us with
   | some ns => ns.length < 64 /\ ∀ p,G p = none -> Q (.ref p) (updG G p (.lst ((sortI ns).map T.int)))
   | none => False)
  | some (.dK kvs) => (match intsOf (kvs.map fun kv => kT kv.1) with
   | some ns => ns.length < 64 /\ ∀ p,G p = none -> Q (.ref p) (updG G p (.lst ((sortI ns).map T.int)))
   | none => False)
  | _ => False)
 | _ => False
def rSrt (K : KW) : List V -> Hp -> VK -> Prop := fun xs H Q => ∃ q ts G Q3,xs = [.ref q] /\ ts = [T.ref q] /\ HR K H G /\ srt3 ts G Q3 /\ Imp K H Q3 Q
theorem sorted_end {pins : List (Addr × Obj)} {σ : L2.St} {H : Hp} {s : Shared} {G : Gp} {Q : VK} {Q3 : VK3} {ns ns' : List Int} {out : List Value} {h1 h' : Heap} {tk e : Nat} {p : Addr} (I : Inv X pins σ H s) (r : HR X.kw H G) (im : Imp X.kw H Q3 Q)
  (h : ∀ p,G p = none -> Q3 (.ref p) (updG G p (.lst ((sortI ns).map T.int)))) (hl : ns.length < 64) (k1 : ∀ b o,s.heap.get? b = some o -> h1.get? b = some o) (k2 : ∀ b o,h1.get? b = some o -> h'.get? b = some o) (hp : h1.objs.size <= p)
  (e1 : h'.get? p = some (seqObj "list" out.toArray e)) (hi : IntsAre out ns') (pm : ns'.Perm ns) (so : ns'.Pairwise (· <= ·)) : EP X pins σ Q (.ref p) { s with heap := h',toks := tk } := by
 have I1 : Inv X pins σ H { s with heap := h1,toks := tk } := I.kept k1
 have es := sortI_eq pm so
 subst es
 have hn := I1.hok.fresh hp
 have hlen : ((sortI ns).map V.int).length <= sizeLine := by rw [List.length_map,(sortI_perm ns).length_eq,sizeLine_eq]; omega
 have I2 : Inv X pins σ (upd H p (.lst ((sortI ns).map V.int))) { s with heap := h',toks := tk } := I1.laid (t' := tk) k2 hp ⟨hlen,out,e,vals_ints hi,e1⟩
 exact ⟨.ref p,_,I2,rfl,im _ _ _ _ (h p (r.free hn)) (Kp.new hn) (.ref p) (r.new (o := .lst ((sortI ns).map T.int)) hn ⟨_,zag,Dens.ints _⟩)⟩
theorem call_sorted3 (hc : X.calm = true) : zbG X (.builtin "sorted") (rSrt X.kw) := by
 intro pins s σ H xs us Q I rv h
 obtain ⟨q,ts,G,Q3,rfl,rfl,r,h,im⟩ := h
 obtain ⟨u,rfl,ru⟩ := vals1 rv
 cases ru
 simp only [srt3] at h
 split at h
 ·rename_i vs eg
  split at h
  ·rename_i ns en
   have e0 := intsOf_eq en
   subst e0
   obtain ⟨ys,e1,ds⟩ := r q _ eg
   have e2 := dens_ints ds
   subst e2
   obtain ⟨its,rr,pl,hz⟩ := I.list (SqL.of e1)
   have hi := vals_of_ints rr
   have hlen := hi.length
   refine sorted_of hi (by omega) (fun A' E' Q' _ q' => collect_list pl.isList (q' _ s.toks fun b o z => ?_) (by rw [sizeLine_eq]; omega)) fun h1 h' tk p e out ns' k1 k2 hp e1 hi' pm so => sorted_end I r im h.2 h.1 k1 k2 hp e1 hi' pm so
   have lt := Heap.lt_size z
   rw [Heap.get?_update_ne _ _ _ _ (Nat.ne_of_lt lt)]
   exact Heap.get?_push_of_some _ z
  ·exact h.elim
 ·rename_i kvs eg
  split at h
  ·rename_i ns en
   have e0 := intsOf_eq en
   obtain ⟨ks,e1,ds⟩ := r q _ eg
   obtain ⟨z,nd,vs,rel,o,ees,ep,g1,g2,g3,g4,g5,g6⟩ := dk_of I.hok e1
   have dk := dens_keys ds
   rw [e0] at dk
   have vk := vals_keys g5 rel
   rw [dens_ints dk] at vk
   have hi := vals_of_ints vk
   have hlen := hi.length
   have hes : ees.size = ns.length := by rw [<- hlen,List.length_map,Array.length_toList]
   refine sorted_of hi (by omega) (fun A' E' Q' hA q' => src_collect (raw_src (ep := ep) nd) (by rw [hA]; exact I.ok.hd hc) ⟨o,g1,g2,g3⟩ (by rw [hes,sizeLine_eq]; omega) fun h' tk acc kp items => ?_) fun h1 h' tk p e out ns' k1 k2 hp e1 hi' pm so => sorted_end I r im h.2 h.1 k1 k2 hp e1 hi' pm so
   have el : acc.toList = ees.toList.map (·.key) := by
    refine List.ext_getElem? fun j => ?_
    rw [Array.getElem?_toList,List.getElem?_map,Array.getElem?_toList]
    cases e : acc[j]? with
    | some v => exact (items.2 j v e).symm
    | none =>
     have : acc.size <= j := by simpa using e
     rw [items.1] at this
     rw [Array.getElem?_eq_none this]; rfl
   rw [el]
   exact q' h' tk kp
  ·exact h.elim
 ·exact h.elim
theorem qsorted (hm : X.mg "sorted" = none) (ha : QA X (e :: es) t) (hg : Gl X "sorted" := by rfl) (he : starEach (e :: es) X.env = (false,eval e X.env) :: starEach es X.env := by rfl) (hpl : (backTo pos (starEach es X.env)).any (·.1) = false := by rfl) (hc : X.calm = true := by rfl) :
  QE X (.Call (.Name "sorted" p) (e :: es) [] pos) (wCB srt3 t) := qcallB (call_sorted3 hc) (fun H G xs ts Q Q3 d r h im => by
 unfold srt3 at h
 split at h
 ·cases d with
  | cons d1 d2 =>
   cases d2
   cases d1
   exact ⟨_,_,G,Q3,rfl,rfl,r,h,im⟩
 ·exact h.elim) hm boot_sorted ha hg (by decide) (by decide) he hpl
end
end L3
set_option Elab.async false
set_option linter.all false
set_option maxRecDepth 100000
set_option maxHeartbeats 4000000
namespace L2
open PySem PySem.Spec PyProof.Rows
section
theorem vals_vals {vs : List (Key × Value)} {xs : List (Key × V)} (q : KV xs vs) : zav (xs.map (·.2)) (vs.map (·.2)) := by
 induction q with
 | nil => exact .nil
 | cons h _ ih => exact .cons h.2 ih
theorem turn_vals {P : Program} {w : World} {K : PySem.W.Frag} {tg : Expr} {kvs : List (Key × Value)} {es : Array DictEntry} {ep : Nat} {vs : List V} (p it : Addr) (o : Obj) (hx : o.ExactDict) (hd : o.data = .dict es ep) (hk : KeysOf (zau P w) es) (hp : Pairs (zau P w) es.toList kvs) (hn : (kvs.map (·.1)).Nodup) (rv : zav vs (kvs.map (·.2))) :
  Turn P w K tg (Itd p o vs) [it] it (fun i h => h.IsValIter it p i kvs.length ep) := by
 have hlen : vs.length = kvs.length := by have := rv.length; simpa using this
 refine ⟨by simp,fun i h st b hb => ?_,fun i h h' st k => ?_,?_,?_,fun A i s Q E st q => ?_⟩
 ·have e : b = it := by simpa using hb
  subst e
  obtain ⟨o,e,c,d⟩ := st
  exact ⟨o,e,fun v z => by rw [d] at z; cases z⟩
 ·obtain ⟨o,e,r⟩ := st
  exact ⟨o,k it (by simp) o e,r⟩
 ·intro X hP hw hK hc i pins s σ H E I hf st hg
  subst hP hw hK
  obtain ⟨f0,f1,f2,f3,f4,f5⟩ := hf it (by simp)
  obtain ⟨lt,u,eH⟩ := hg
  have lt' : i < kvs.length := by omega
  have dm : s.heap.DictAt (zau X.prog X.w) p kvs ep := ⟨o,es,(I.hok p _ eH).1,hx,hd,hk,hp,hn⟩
  refine wpAny_pyNext_values_item (k := kvs[i].1) (v := kvs[i].2) st dm (by simp [lt']) fun h' st' sb => ?_
  have I1 : Inv X pins σ H { s with heap := h' } := I.turned (t' := s.toks) (fun b o hb e => (sb.2 b hb).trans e) f0 f1 f3 f4 f5
  obtain ⟨oi,e,c,d⟩ := id st'
  obtain ⟨x,hx1,hx2⟩ : ∃ x,vs[i]? = some x /\ zaG x kvs[i].2 := by
   obtain ⟨u',hu,ru⟩ := rv.get (x := vs[i]) (i := i) (by simp [lt])
   refine ⟨vs[i],by simp [lt],?_⟩
   rw [List.getElem?_map,List.getElem?_eq_getElem lt'] at hu
   simp only [Option.map_some,Option.some.injEq] at hu
   rw [hu]; exact ru
  exact ⟨_,rfl,go_of (s := { s with heap := h' }) e c d (by decide) ⟨x,H,I1,hx2,⟨rfl,hx1⟩,st',fun b hb => (hf b hb).1⟩⟩
 ·intro X hP hw hK hc i pins s σ H E I hf st hg
  subst hP hw hK
  obtain ⟨f0,f1,f2,f3,f4,f5⟩ := hf it (by simp)
  obtain ⟨ge,u,eH⟩ := hg
  have dm : s.heap.DictAt (zau X.prog X.w) p kvs ep := ⟨o,es,(I.hok p _ eH).1,hx,hd,hk,hp,hn⟩
  exact wpAny_pyNext_values_end (I.ok.hd hc) st dm (by simp; omega) fun h' eb => ⟨rfl,I.turned (t' := s.toks) (fun b o hb e => eb b o hb e) f0 f1 f3 f4 f5⟩
 ·obtain ⟨o,e,c,d⟩ := st
  have ty : s.TypeIs (.ref it) "dict_valueiterator" := ⟨o,e,c⟩
  refine wpAny_pyIter_slot ty F.slot_dict_valueiterator_iter (wpAny_call_entry F.slot_dict_valueiterator_iter ty entry_dict_valueiterator_iter ?_ (F.args_dict_valueiterator_iter_1 _))
  exact wpAny_pure ⟨_,rfl,"dict_valueiterator",_,ty,F.slot_dict_valueiterator_next.lookup,q⟩
end
end L2
namespace L3
open PySem PySem.Spec PyProof.Rows L2
section
variable {X : Cx} {e a b c o i l : Expr} {es : List Expr} {pos apos p p2 : Pos} {ta tb tc tv to ti tl : TE3} {t : TA3} {k : Nat} {tg : Expr} {st : Stmt}
theorem dens_vals {K : KW} {H : Hp} {xs : List (Key × V)} {kvs : List (Key × T)} (h : Ents K H xs kvs) : Dens K H (xs.map (·.2)) (kvs.map (·.2)) := by
 induction h with
 | nil => exact .nil
 | cons h _ ih => exact .cons h.2 ih
def iVals (tl : TE3) : TI3 := fun τ G R => tl τ G fun x G1 => match x with
 | .ref q => (match G1 q with
  | some (.dK kvs) => ∀ ob,R (kvs.map (·.2)) (fun G => G q = some (.dF ob kvs)) (updG G1 q (.dF ob kvs))
  | _ => False)
 | _ => False
theorem qi_vals (hl : QE X l tl) (hbase : attributeBase l "values" X.env (eval l X.env) = eval l X.env := by rfl) (hline : (apos.endLine == pos.line) = true := by rfl) : QI X tg (.Call (.Attribute l "values" apos) [] [] pos) (iVals tl) := by
 intro pins s σ H R I ⟨τ,G,Q3,st,r,h,im⟩
 refine wpAny_Call_method0_late hbase hline (thn (hl pins s σ H (fun v H1 => ∃ x G1,iVals (fun _ _ Q => Q x G1) τ G1 Q3 /\ Kp H H1 /\ Den X.kw H1 v x /\ HR X.kw H1 G1) I ⟨τ,G,_,st,r,h,fun x G1 v H1 h1 k1 d1 r1 => ⟨x,G1,h1,k1,d1,r1⟩⟩) fun v s1 ⟨vv,H1,I1,rv,x,G1,h1,k1,d1,r1⟩ => ?_)
 unfold iVals at h1
 cases d1 with
 | ref q =>
  cases rv
  simp only at h1
  split at h1
  ·rename_i kvs eg
   obtain ⟨ks,e1,ds⟩ := r1 q _ eg
   obtain ⟨z,nd,vs,rel,o,es,ep,g1,g2,g3,g4,g5,g6⟩ := dk_of I1.hok e1
   have ty : s1.TypeIs (.ref q) "dict" := ⟨o,g1,g2.1⟩
   refine ⟨"dict","dict.values",PySem.F.plainAttrs_dict,PySem.F.slot_dict_values,PySem.F.type_dict_values,ty,fun b e => ?_,Calls.callWith_builtin rfl (PySem.evalArgs_none ?_)⟩
   ·cases e; exact ⟨o,g1,g2.2.1⟩
   refine call_meetsIn PySem.F.slot_dict_values ty PySem.F.entry_dict_values (PySem.F.args_dict_values_1 _) (meets_dict_values (zau X.prog X.w) q nd) ⟨⟨vs,o,es,ep,g1,g2,g3,g4,g5,g6⟩,?_⟩
   have kp : ∀ b o',s1.heap.get? b = some o' -> (s1.heap.push { cls := .type "dict_values",data := .fields #[.ref q] }).get? b = some o' := fun b o' e => Heap.get?_push_of_some _ e
   have I2 : Inv X pins σ H1 { s1 with heap := s1.heap.push { cls := .type "dict_values",data := .fields #[.ref q] } } := I1.kept (t' := s1.toks) kp
   refine wpAny_pyIter_values (knd := zau X.prog X.w) (s := { s1 with heap := s1.heap.push { cls := .type "dict_values",data := .fields #[.ref q] } }) (d := q) (kvs := vs) (ep := ep) ⟨_,Heap.get?_push_size _ rfl,rfl,rfl⟩ ⟨o,es,kp q o g1,g2,g3,g4,g5,g6⟩ ?_
   have I3 : Inv X pins σ (upd H1 q (.frz o (.dK ks))) { s1 with heap := s1.heap.push { cls := .type "dict_values",data := .fields #[.ref q] } } := I2.freeze e1 trivial (kp q o g1)
   have kf : Kp H1 (upd H1 q (.frz o (.dK ks))) := Kp.mut (by rw [e1]; trivial)
   have r2 : HR X.kw (upd H1 q (.frz o (.dK ks))) (updG G1 q (.dF o kvs)) := r1.put eg ⟨ks,zag,Ents.mono kf ds⟩
   refine ⟨_,[_],_,Itd q o (ks.map (·.2)),_,rfl,I3.kept (t' := s1.toks) fun b o e => Heap.get?_push_of_some _ e,turn_vals q _ o g2 g3 g4 g5 g6 (vals_vals rel),⟨_,Heap.get?_push_size _ rfl,rfl,rfl⟩,fun b hb => ?_,im _ _ _ _ _ (h1 o) (k1.trans kf) r2 (itd_ok ((dens_vals ds).mono kf) fun H' G' r' hs => ?_)⟩
   ·obtain rfl := List.mem_singleton.mp hb
    exact I3.fpOk (Nat.le_refl _) (I3.hok.fresh (Nat.le_refl _))
   ·obtain ⟨ks',e',_⟩ := r' q _ hs
    exact ⟨_,e'⟩
  ·exact h1.elim
 | _ => exact False.elim h1
end
end L3
namespace M
inductive Let where
 | prepare (b : Int)
 | promise (b : Int) (v : Nat) (l : Option (Int × Int))
 | ask (b w : Int)
 | vote (b : Int) (v : Nat) (w : Int)
 deriving DecidableEq
def Let.bal : Let -> Int
 | .prepare b => b
 | .promise b _ _ => b
 | .ask b _ => b
 | .vote b _ _ => b
structure Asker where
 ballot : Option Int
 last : Option Int
 noted : List (Nat × Option (Int × Int))
 asked : Bool
structure Voter where
 promised : Option Int
 voted : Option (Int × Int)
structure St where
 wishes : List Int
 many : Nat
 letters : List Let
 askers : Nat -> Asker
 voters : Nat -> Voter
 backers : Int -> Option (List Nat)
def upd {α β : Type} [DecidableEq α] (f : α -> β) (a : α) (x : β) : α -> β := fun j => if j = a then x else f j
@[grind =] theorem upd_app {α β : Type} [DecidableEq α] (f : α -> β) (a : α) (x : β) (j : α) : upd f a x j = if j = a then x else f j := rfl
def write (L : List Let) (x : Let) : List Let := if x ∈ L then L else L ++ [x]
@[grind =] theorem mem_write {L : List Let} {x y : Let} : y ∈ write L x ↔ y ∈ L ∨ y = x := by
 unfold write; split <;> grind
theorem zcl {L : List Let} {x : Let} (h : L.Nodup) : (write L x).Nodup := by
 unfold write; split
 ·exact h
 ·rename_i hx
  rw [List.nodup_append]
  refine ⟨h,by simp,?_⟩
  intro a ha b hb
  simp at hb
  subst hb
  intro e
  exact hx (e ▸ ha)
def put {α : Type} (k : Nat) (x : α) : List (Nat × α) -> List (Nat × α)
 | [] => [(k,x)]
 | (j,y) :: r => if j = k then (j,x) :: r else (j,y) :: put k x r
theorem mem_put {α : Type} {k : Nat} {x : α} : ∀ {l : List (Nat × α)} {p : Nat × α},p ∈ put k x l -> p = (k,x) ∨ p ∈ l
 | [],p,h => by simp [put] at h; exact .inl h
 | (j,y) :: r,p,h => by
  unfold put at h
  split at h
  ·rename_i e; subst e
   rcases List.mem_cons.mp h with h | h
   ·exact .inl h
   ·exact .inr (List.mem_cons_of_mem _ h)
  ·rcases List.mem_cons.mp h with h | h
   ·exact .inr (h ▸ List.mem_cons_self)
   ·rcases mem_put h with h | h
    ·exact .inl h
    ·exact .inr (List.mem_cons_of_mem _ h)
theorem put_keys {α : Type} {k : Nat} {x : α} : ∀ {l : List (Nat × α)} {j : Nat},j ∈ (put k x l).map (·.1) ↔ j = k ∨ j ∈ l.map (·.1)
 | [],j => by simp [put]
 | (i,y) :: r,j => by
  unfold put
  split
  ·rename_i e; subst e; simp
  ·simp only [List.map_cons,List.mem_cons,put_keys (l := r)]; grind
theorem put_nodup {α : Type} {k : Nat} {x : α} : ∀ {l : List (Nat × α)},(l.map (·.1)).Nodup -> ((put k x l).map (·.1)).Nodup
 | [],_ => by simp [put]
 | (i,y) :: r,h => by
  unfold put
  simp only [List.map_cons,List.nodup_cons] at h
  split
  ·simpa using h
  ·rename_i e
   simp only [List.map_cons,List.nodup_cons]
   refine ⟨?_,put_nodup h.2⟩
   rw [put_keys]
   grind
def better (acc : Option (Int × Int)) (p : Nat × Option (Int × Int)) : Option (Int × Int) :=
 match p.2 with
 | none => acc
 | some q => match acc with
  | none => some q
  | some a => if a.1 < q.1 then some q else some a
def best (l : List (Nat × Option (Int × Int))) : Option (Int × Int) := l.foldl better none
theorem best_acc (l : List (Nat × Option (Int × Int))) : ∀ acc : Option (Int × Int),
  (l.foldl better acc = none -> acc = none /\ ∀ v q,(v,some q) ∉ l) /\
  (∀ q,l.foldl better acc = some q -> (acc = some q ∨ ∃ v,(v,some q) ∈ l) /\ (∀ a,acc = some a -> a.1 <= q.1) /\ ∀ v c,(v,some c) ∈ l -> c.1 <= q.1) := by
 induction l with
 | nil => intro acc; simp only [List.foldl_nil]; grind
 | cons p r ih =>
  intro acc
  obtain ⟨v,o⟩ := p
  rw [List.foldl_cons]
  have := ih (better acc (v,o))
  cases o with
  | none => simp only [better] at this ⊢; grind
  | some q => cases acc with
   | none => simp only [better] at this ⊢; grind
   | some a => simp only [better] at this ⊢; grind
theorem best_none {l : List (Nat × Option (Int × Int))} (h : best l = none) (v : Nat) (q : Int × Int) : (v,some q) ∉ l := ((best_acc l none).1 h).2 v q
theorem best_mem {l : List (Nat × Option (Int × Int))} {q : Int × Int} (h : best l = some q) : ∃ v,(v,some q) ∈ l := by
 have := ((best_acc l none).2 q h).1; simpa using this
theorem best_ge {l : List (Nat × Option (Int × Int))} {q : Int × Int} (h : best l = some q) {v : Nat} {c : Int × Int} (hc : (v,some c) ∈ l) : c.1 <= q.1 := ((best_acc l none).2 q h).2.2 v c hc
def own (n : Nat) (b : Int) : Nat := (b % (n : Int)).toNat
def St.low (S : St) (a : Nat) (least : Int) : Int := match (S.askers a).last with
 | none => least
 | some l => max least (l + 1)
def St.due (S : St) (a : Nat) (least : Int) : Int := S.low a least + ((a : Int) - S.low a least) % (S.wishes.length : Int)
def St.begin (S : St) (a : Nat) (least : Int) : St :=
 { S with askers := upd S.askers a ⟨some (S.due a least),some (S.due a least),[],false⟩,letters := write S.letters (.prepare (S.due a least)) }
def St.fall (S : St) (a : Nat) : St := { S with askers := upd S.askers a { S.askers a with ballot := none } }
def St.wishOf (S : St) (b : Int) (l : List (Nat × Option (Int × Int))) : Int := match best l with
 | some q => q.2
 | none => S.wishes.getD (own S.wishes.length b) 0
def keysOf (m : Nat) (l : List (Nat × Option (Int × Int))) : List Nat := (List.range m).filter fun v => decide (v ∈ l.map (·.1))
def St.note (S : St) (b : Int) (v : Nat) (l : Option (Int × Int)) : St :=
 let A := S.askers (own S.wishes.length b)
 if A.ballot = some b /\ A.asked = false then
  let noted := put v l A.noted
  if S.many < 2 * noted.length then
   { S with askers := upd S.askers (own S.wishes.length b) { A with noted := noted,asked := true },backers := upd S.backers b (some (keysOf S.many noted)),letters := write S.letters (.ask b (S.wishOf b noted)) }
  else { S with askers := upd S.askers (own S.wishes.length b) { A with noted := noted } }
 else S
def lt? (o : Option Int) (b : Int) : Bool := match o with
 | none => true
 | some p => decide (p < b)
def le? (o : Option Int) (b : Int) : Bool := match o with
 | none => true
 | some p => decide (p <= b)
def St.hear (S : St) (x : Let) (v : Nat) : St := match x with
 | .prepare b => if lt? (S.voters v).promised b then
   { S with voters := upd S.voters v ⟨some b,(S.voters v).voted⟩,letters := write S.letters (.promise b v (S.voters v).voted) } else S
 | .ask b w => if le? (S.voters v).promised b then
   { S with voters := upd S.voters v ⟨some b,some (b,w)⟩,letters := write S.letters (.vote b v w) } else S
 | .promise b u l => S.note b u l
 | .vote _ _ _ => S
def St.bring (S : St) (k v : Nat) : St := match S.letters[k]? with
 | some x => S.hear x v
 | none => S
def new (wishes : List Int) (many : Nat) : St := ⟨wishes,many,[],fun _ => ⟨none,none,[],false⟩,fun _ => ⟨none,none⟩,fun _ => none⟩
structure Inv (S : St) : Prop where
 n0 : 0 < S.wishes.length
 nodup : S.letters.Nodup
 prep : ∀ b,.prepare b ∈ S.letters -> 0 <= b /\ ∃ l,(S.askers (own S.wishes.length b)).last = some l /\ b <= l
 prom : ∀ b v l,.promise b v l ∈ S.letters -> v < S.many /\ .prepare b ∈ S.letters /\ ∃ p,(S.voters v).promised = some p /\ b <= p
 promU : ∀ b v l l',.promise b v l ∈ S.letters -> .promise b v l' ∈ S.letters -> l = l'
 last1 : ∀ b v c w,.promise b v (some (c,w)) ∈ S.letters -> c < b /\ .vote c v w ∈ S.letters
 last2 : ∀ b v l c w,.promise b v l ∈ S.letters -> .vote c v w ∈ S.letters -> c < b -> ∃ c' w',l = some (c',w') /\ c <= c'
 vot : ∀ b v w,.vote b v w ∈ S.letters -> v < S.many /\ .ask b w ∈ S.letters /\ ∃ c w',(S.voters v).voted = some (c,w') /\ b <= c
 vd : ∀ v c w,(S.voters v).voted = some (c,w) -> .vote c v w ∈ S.letters /\ ∃ p,(S.voters v).promised = some p /\ c <= p
 pd : ∀ v p,(S.voters v).promised = some p -> .prepare p ∈ S.letters
 askP : ∀ b w,.ask b w ∈ S.letters -> .prepare b ∈ S.letters /\ ∃ vs,S.backers b = some vs
 askU : ∀ b w w',.ask b w ∈ S.letters -> .ask b w' ∈ S.letters -> w = w'
 back : ∀ b vs,S.backers b = some vs -> (∃ w,.ask b w ∈ S.letters) /\ S.many < 2 * vs.length /\ vs.Pairwise (· < ·) /\ ∀ v ∈ vs,∃ l,.promise b v l ∈ S.letters
 wish : ∀ b w vs,.ask b w ∈ S.letters -> S.backers b = some vs ->
  ((∀ v ∈ vs,.promise b v none ∈ S.letters) /\ S.wishes[own S.wishes.length b]? = some w) ∨
  ∃ v,v ∈ vs /\ ∃ c,.promise b v (some (c,w)) ∈ S.letters /\ ∀ u,u ∈ vs -> ∀ c' w',.promise b u (some (c',w')) ∈ S.letters -> c' <= c
 bl : ∀ a b,(S.askers a).ballot = some b -> (S.askers a).last = some b
 lastp : ∀ a l,(S.askers a).last = some l -> .prepare l ∈ S.letters /\ own S.wishes.length l = a
 noted : ∀ a b v l,(S.askers a).ballot = some b -> (v,l) ∈ (S.askers a).noted -> .promise b v l ∈ S.letters
 notedU : ∀ a,((S.askers a).noted.map (·.1)).Nodup
 opn : ∀ a b,(S.askers a).ballot = some b -> (S.askers a).asked = false -> (∀ w,.ask b w ∉ S.letters) /\ 2 * (S.askers a).noted.length <= S.many
 done : ∀ a b,(S.askers a).ballot = some b -> (S.askers a).asked = true -> ∃ w,.ask b w ∈ S.letters
theorem Inv.new {wishes : List Int} {many : Nat} (h : 0 < wishes.length) : Inv (M.new wishes many) := by
 constructor <;> simp [M.new,h]
theorem due_ge (S : St) (a : Nat) (least : Int) (h : 0 < S.wishes.length) : S.low a least <= S.due a least := by
 have := Int.emod_nonneg ((a : Int) - S.low a least) (b := (S.wishes.length : Int)) (by omega)
 unfold St.due; omega
theorem due_own (S : St) {a : Nat} (least : Int) (h : a < S.wishes.length) : own S.wishes.length (S.due a least) = a := by
 unfold own St.due
 have e : (S.low a least + ((a : Int) - S.low a least) % (S.wishes.length : Int)) % (S.wishes.length : Int) = (a : Int) % (S.wishes.length : Int) := by
  rw [Int.add_emod,Int.emod_emod,<- Int.add_emod]
  congr 1; omega
 rw [e,Int.emod_eq_of_lt (by omega) (by omega)]
 simp
theorem Inv.begin {S : St} (I : Inv S) {a : Nat} {least : Int} (ha : a < S.wishes.length) (hl : 0 <= least) : Inv (S.begin a least) := by
 have h1 := due_ge S a least I.n0
 have h2 := due_own S least ha
 have h3 : least <= S.low a least := by unfold St.low; split <;> omega
 have h4 : ∀ l,(S.askers a).last = some l -> l < S.due a least := by
  intro l e
  have : S.low a least = max least (l + 1) := by unfold St.low; rw [e]
  omega
 generalize hb : S.due a least = b at *
 have h5 : .prepare b ∉ S.letters := by
  intro hm
  obtain ⟨_,l,e,hle⟩ := I.prep b hm
  rw [h2] at e
  have := h4 l e
  omega
 have h6 : ∀ w,.ask b w ∉ S.letters := fun w hm => h5 (I.askP b w hm).1
 constructor
 ·exact I.n0
 ·exact zcl I.nodup
 all_goals simp only [St.begin,hb,mem_write,upd_app]
 ·intro c hc
  have := I.prep c
  by_cases e : own S.wishes.length c = a
  ·rw [if_pos e]; grind
  ·rw [if_neg e]; grind
 ·have := I.prom; grind
 ·have := I.promU; grind
 ·have := I.last1; grind
 ·have := I.last2; grind
 ·have := I.vot; grind
 ·have := I.vd; grind
 ·have := I.pd; grind
 ·have := I.askP; grind
 ·have := I.askU; grind
 ·have := I.back; grind
 ·have := I.wish; grind
 ·have := I.bl; grind
 ·have := I.lastp; grind
 ·have := I.noted; grind
 ·have := I.notedU; grind
 ·have := I.opn; grind
 ·have := I.done; grind
theorem Inv.fall {S : St} (I : Inv S) (a : Nat) : Inv (S.fall a) := by
 constructor
 ·exact I.n0
 ·exact I.nodup
 all_goals simp only [St.fall,upd_app]
 ·intro c hc
  have := I.prep c hc
  by_cases e : own S.wishes.length c = a
  ·rw [if_pos e]; grind
  ·rw [if_neg e]; grind
 ·exact I.prom
 ·exact I.promU
 ·exact I.last1
 ·exact I.last2
 ·exact I.vot
 ·exact I.vd
 ·exact I.pd
 ·exact I.askP
 ·exact I.askU
 ·exact I.back
 ·exact I.wish
 ·have := I.bl; grind
 ·have := I.lastp; grind
 ·have := I.noted; grind
 ·have := I.notedU; grind
 ·have := I.opn; grind
 ·have := I.done; grind
theorem Inv.hearP {S : St} (I : Inv S) {b : Int} {v : Nat} (hb : .prepare b ∈ S.letters) (hv : v < S.many) : Inv (S.hear (.prepare b) v) := by
 simp only [St.hear]
 split
 case isFalse => exact I
 case isTrue hl =>
 have h1 : ∀ p,(S.voters v).promised = some p -> p < b := by
  intro p e; rw [e] at hl; simpa [lt?] using hl
 have h2 : ∀ l,.promise b v l ∉ S.letters := by
  intro l hm
  obtain ⟨_,_,p,e,hle⟩ := I.prom b v l hm
  have := h1 p e
  omega
 generalize hq : (S.voters v).voted = q at *
 constructor
 ·exact I.n0
 ·exact zcl I.nodup
 all_goals simp only [mem_write,upd_app]
 ·have := I.prep; grind
 ·intro c u l
  have := I.prom c u l
  by_cases e : u = v
  ·subst e; simp only [↓reduceIte]; grind
  ·simp only [if_neg e]; grind
 ·have := I.promU; grind
 ·have := I.last1; have := I.vd; grind
 ·have h3 := I.last2; have h4 := I.vot
  intro c u l d w h5 h6 h7
  have h6 : .vote d u w ∈ S.letters := by grind
  rcases h5 with h5 | h5
  ·exact h3 c u l d w h5 h6 h7
  ·cases h5
   obtain ⟨_,_,c',w',e,hle⟩ := h4 d v w h6
   exact ⟨c',w',by rw [<- hq,e],hle⟩
 ·intro c u w
  have := I.vot c u w
  by_cases e : u = v
  ·subst e; simp only [↓reduceIte]; grind
  ·simp only [if_neg e]; grind
 ·intro u c w'
  have := I.vd u c w'
  by_cases e : u = v
  ·subst e; simp only [↓reduceIte]; grind
  ·simp only [if_neg e]; grind
 ·intro u p
  have := I.pd u p
  by_cases e : u = v
  ·subst e; simp only [↓reduceIte]; grind
  ·simp only [if_neg e]; grind
 ·have := I.askP; grind
 ·have := I.askU; grind
 ·have := I.back; grind
 ·have h3 := I.wish; have h4 := I.back
  intro c w vs h5 h6
  have h5 : .ask c w ∈ S.letters := by grind
  obtain ⟨_,_,_,h7⟩ := h4 c vs h6
  rcases h3 c w vs h5 h6 with ⟨h8,h9⟩ | ⟨u,hu,d,h8,h9⟩
  ·exact .inl ⟨fun u hu => .inl (h8 u hu),h9⟩
  ·refine .inr ⟨u,hu,d,.inl h8,fun u' hu' c' w' h10 => ?_⟩
   have : c = b -> u' ≠ v := by
    intro e1 e2
    subst e1; subst e2
    obtain ⟨l,hl'⟩ := h7 u' hu'
    exact h2 l hl'
   grind
 ·exact I.bl
 ·have := I.lastp; grind
 ·have := I.noted; grind
 ·exact I.notedU
 ·have := I.opn; grind
 ·have := I.done; grind
theorem Inv.hearA {S : St} (I : Inv S) {b w : Int} {v : Nat} (hb : .ask b w ∈ S.letters) (hv : v < S.many) : Inv (S.hear (.ask b w) v) := by
 simp only [St.hear]
 split
 case isFalse => exact I
 case isTrue hl =>
 have h1 : ∀ p,(S.voters v).promised = some p -> p <= b := by
  intro p e; rw [e] at hl; simpa [le?] using hl
 have h0 := I.askP b w hb
 constructor
 ·exact I.n0
 ·exact zcl I.nodup
 all_goals simp only [mem_write,upd_app]
 ·have := I.prep; grind
 ·intro c u l
  have := I.prom c u l
  by_cases e : u = v
  ·subst e; simp only [↓reduceIte]; grind
  ·simp only [if_neg e]; grind
 ·have := I.promU; grind
 ·have := I.last1; grind
 ·have h3 := I.last2; have h4 := I.prom
  intro c u l d w' h5 h6 h7
  have h5 : .promise c u l ∈ S.letters := by grind
  rcases h6 with h6 | h6
  ·exact h3 c u l d w' h5 h6 h7
  ·cases h6
   obtain ⟨_,_,p,e,hle⟩ := h4 c v l h5
   have := h1 p e
   omega
 ·intro c u w'
  have := I.vot c u w'; have := I.vd u
  by_cases e : u = v
  ·subst e; simp only [↓reduceIte]; grind
  ·simp only [if_neg e]; grind
 ·intro u c w'
  have := I.vd u c w'
  by_cases e : u = v
  ·subst e; simp only [↓reduceIte]; grind
  ·simp only [if_neg e]; grind
 ·intro u p
  have := I.pd u p
  by_cases e : u = v
  ·subst e; simp only [↓reduceIte]; grind
  ·simp only [if_neg e]; grind
 ·have := I.askP; grind
 ·have := I.askU; grind
 ·have := I.back; grind
 ·have := I.wish; grind
 ·exact I.bl
 ·have := I.lastp; grind
 ·have := I.noted; grind
 ·exact I.notedU
 ·have := I.opn; grind
 ·have := I.done; grind
theorem mem_keysOf {m : Nat} {l : List (Nat × Option (Int × Int))} {v : Nat} : v ∈ keysOf m l ↔ v < m /\ v ∈ l.map (·.1) := by
 unfold keysOf; rw [List.mem_filter,List.mem_range]; simp
theorem keysOf_sorted (m : Nat) (l : List (Nat × Option (Int × Int))) : (keysOf m l).Pairwise (· < ·) := List.Pairwise.filter _ List.pairwise_lt_range
theorem sorted_nodup {l : List Nat} (h : l.Pairwise (· < ·)) : l.Nodup := h.imp fun h => Nat.ne_of_lt h
theorem length_of_nodup {α : Type} [DecidableEq α] : ∀ {l r : List α},l.Nodup -> (∀ x ∈ l,x ∈ r) -> l.length <= r.length
 | [],_,_,_ => Nat.zero_le _
 | x :: l,r,nd,h => by
  have hx := h x List.mem_cons_self
  have hn := List.nodup_cons.mp nd
  have h' : ∀ y ∈ l,y ∈ r.erase x := fun y hy => by
   have : y ≠ x := fun e => hn.1 (e ▸ hy)
   exact (List.mem_erase_of_ne this).mpr (h y (List.mem_cons_of_mem _ hy))
  have := length_of_nodup hn.2 h'
  rw [List.length_erase_of_mem hx] at this
  have : 0 < r.length := List.length_pos_of_mem hx
  simp only [List.length_cons]
  omega
theorem keysOf_length {m : Nat} {l : List (Nat × Option (Int × Int))} (nd : (l.map (·.1)).Nodup) (h : ∀ v x,(v,x) ∈ l -> v < m) : (keysOf m l).length = l.length := by
 apply Nat.le_antisymm
 ·have := length_of_nodup (r := l.map (·.1)) (sorted_nodup (keysOf_sorted m l)) fun x hx => (mem_keysOf.mp hx).2
  simpa using this
 ·have := length_of_nodup (r := keysOf m l) nd fun x hx => mem_keysOf.mpr ⟨by
   obtain ⟨p,hp,rfl⟩ := List.mem_map.mp hx
   exact h p.1 p.2 hp,hx⟩
  simpa using this
theorem Inv.note {S : St} (I : Inv S) {b : Int} {v : Nat} {l : Option (Int × Int)} (hm : .promise b v l ∈ S.letters) : Inv (S.note b v l) := by
 unfold St.note
 generalize ha : own S.wishes.length b = a
 dsimp only
 split
 case isFalse => exact I
 case isTrue hc =>
 obtain ⟨h1,h2⟩ := hc
 have k0 := I.opn a b h1 h2
 have n1 : ∀ u x,(u,x) ∈ put v l (S.askers a).noted -> .promise b u x ∈ S.letters := by
  intro u x hx
  rcases mem_put hx with h | h
  ·cases h; exact hm
  ·exact I.noted a b u x h1 h
 have n2 := put_nodup (k := v) (x := l) (I.notedU a)
 have n3 : ∀ u x,(u,x) ∈ put v l (S.askers a).noted -> u < S.many := fun u x hx => (I.prom b u x (n1 u x hx)).1
 have n4 := keysOf_length n2 n3
 have hbL := (I.prom b v l hm).2.1
 generalize hN : put v l (S.askers a).noted = N at *
 split
 case isFalse hmaj =>
  constructor
  ·exact I.n0
  ·exact I.nodup
  all_goals simp only [upd_app]
  ·intro c hc
   have := I.prep c hc
   by_cases e : own S.wishes.length c = a
   ·rw [if_pos e]; grind
   ·rw [if_neg e]; grind
  ·exact I.prom
  ·exact I.promU
  ·exact I.last1
  ·exact I.last2
  ·exact I.vot
  ·exact I.vd
  ·exact I.pd
  ·exact I.askP
  ·exact I.askU
  ·exact I.back
  ·exact I.wish
  ·have := I.bl; grind
  ·have := I.lastp; grind
  ·have := I.noted; grind
  ·have := I.notedU; grind
  ·have := I.opn; grind
  ·have := I.done; grind
 case isTrue hmaj =>
  have kv : ∀ u,u ∈ keysOf S.many N -> ∃ x,(u,x) ∈ N := by
   intro u hu
   obtain ⟨p,hp,rfl⟩ := List.mem_map.mp (mem_keysOf.mp hu).2
   exact ⟨p.2,hp⟩
  have kn : ∀ u x,(u,x) ∈ N -> u ∈ keysOf S.many N := fun u x hx => mem_keysOf.mpr ⟨n3 u x hx,List.mem_map.mpr ⟨_,hx,rfl⟩⟩
  have kw : ((∀ u,u ∈ keysOf S.many N -> .promise b u none ∈ S.letters) /\ S.wishes[a]? = some (S.wishOf b N)) ∨
    ∃ u,u ∈ keysOf S.many N /\ ∃ c,.promise b u (some (c,S.wishOf b N)) ∈ S.letters /\ ∀ u',u' ∈ keysOf S.many N -> ∀ c' w',.promise b u' (some (c',w')) ∈ S.letters -> c' <= c := by
   cases hbest : best N with
   | none =>
    refine .inl ⟨fun u hu => ?_,?_⟩
    ·obtain ⟨x,hx⟩ := kv u hu
     cases x with
     | none => exact n1 u none hx
     | some q => exact absurd hx (best_none hbest u q)
    ·have hlt : a < S.wishes.length := by
      rw [<- ha]; unfold own
      have h3 := Int.emod_nonneg b (b := (S.wishes.length : Int)) (by have := I.n0; omega)
      have h4 := Int.emod_lt_of_pos b (b := (S.wishes.length : Int)) (by have := I.n0; omega)
      omega
     unfold St.wishOf
     rw [hbest,ha]
     dsimp only
     rw [List.getD_eq_getElem?_getD,List.getElem?_eq_getElem hlt]
     rfl
   | some q =>
    obtain ⟨u,hu⟩ := best_mem hbest
    have hw : S.wishOf b N = q.2 := by unfold St.wishOf; rw [hbest]
    refine .inr ⟨u,kn u _ hu,q.1,by rw [hw]; exact n1 u _ hu,fun u' hu' c' w' hp => ?_⟩
    obtain ⟨x,hx⟩ := kv u' hu'
    have := I.promU b u' _ _ (n1 u' x hx) hp
    subst this
    exact best_ge hbest hx
  generalize hK : keysOf S.many N = Kk at *
  have kso : Kk.Pairwise (· < ·) := hK ▸ keysOf_sorted _ _
  generalize hW : S.wishOf b N = W at *
  constructor
  ·exact I.n0
  ·exact zcl I.nodup
  all_goals simp only [upd_app,mem_write]
  ·intro c hc
   have := I.prep c (by grind)
   by_cases e : own S.wishes.length c = a
   ·rw [if_pos e]; grind
   ·rw [if_neg e]; grind
  ·have := I.prom; grind
  ·have := I.promU; grind
  ·have := I.last1; grind
  ·have := I.last2; grind
  ·have := I.vot; grind
  ·have := I.vd; grind
  ·have := I.pd; grind
  ·intro c w h
   have := I.askP c w
   by_cases e : c = b
   ·subst e; simp only [↓reduceIte]; grind
   ·simp only [if_neg e]; grind
  ·have := I.askU; grind
  ·intro c vs h
   have := I.back c vs
   by_cases e : c = b
   ·subst e; simp only [↓reduceIte,Option.some.injEq] at h
    subst h
    refine ⟨⟨W,.inr rfl⟩,by omega,kso,fun u hu => ?_⟩
    obtain ⟨x,hx⟩ := kv u hu
    exact ⟨x,.inl (n1 u x hx)⟩
   ·simp only [if_neg e] at h; grind
  ·intro c w vs h h'
   have := I.wish c w vs
   by_cases e : c = b
   ·subst e; simp only [↓reduceIte,Option.some.injEq] at h'
    subst h'
    have hw : w = W := by
     rcases h with h | h
     ·exact absurd h (k0.1 w)
     ·cases h; rfl
    subst hw
    rw [ha]
    grind
   ·simp only [if_neg e] at h'; grind
  ·have := I.bl; grind
  ·have := I.lastp; grind
  ·have := I.noted; grind
  ·have := I.notedU; grind
  ·intro c d h h'
   have h3 := I.opn c d
   by_cases e : c = a
   ·subst e; simp only [↓reduceIte] at h'; cases h'
   ·simp only [if_neg e] at h h'
    have h4 := (I.lastp c d (I.bl c d h)).2
    have : d ≠ b := by
     intro z; subst z; exact e (h4.symm.trans ha)
    simp only [if_neg e]
    grind
  ·intro c d h h'
   have h3 := I.done c d
   by_cases e : c = a
   ·subst e; simp only [↓reduceIte] at h
    rw [h1] at h; cases h
    exact ⟨W,.inr rfl⟩
   ·simp only [if_neg e] at h h'
    obtain ⟨w,hw⟩ := h3 h h'
    exact ⟨w,.inl hw⟩
theorem Inv.hear {S : St} (I : Inv S) {x : Let} {v : Nat} (hx : x ∈ S.letters) (hv : v < S.many) : Inv (S.hear x v) := by
 cases x with
 | prepare b => exact I.hearP hx hv
 | ask b w => exact I.hearA hx hv
 | promise b u l => exact I.note hx
 | vote b u w => exact I
theorem Inv.bring {S : St} (I : Inv S) (k : Nat) {v : Nat} (hv : v < S.many) : Inv (S.bring k v) := by
 unfold St.bring
 split
 ·rename_i x e; exact I.hear (List.mem_of_getElem? e) hv
 ·exact I
def Vs (S : St) (b w : Int) : List Nat := (List.range S.many).filter fun v => decide (.vote b v w ∈ S.letters)
def Chosen (S : St) (b w : Int) : Prop := S.many < 2 * (Vs S b w).length
theorem mem_Vs {S : St} {b w : Int} {v : Nat} : v ∈ Vs S b w ↔ v < S.many /\ .vote b v w ∈ S.letters := by
 unfold Vs; rw [List.mem_filter,List.mem_range]; simp
theorem Vs_sorted (S : St) (b w : Int) : (Vs S b w).Pairwise (· < ·) := List.Pairwise.filter _ List.pairwise_lt_range
theorem meet {m : Nat} {l r : List Nat} (hl : l.Nodup) (hr : r.Nodup) (bl : ∀ v ∈ l,v < m) (br : ∀ v ∈ r,v < m) (h1 : m < 2 * l.length) (h2 : m < 2 * r.length) : ∃ v,v ∈ l /\ v ∈ r := by
 false_or_by_contra
 rename_i hn
 have hd : (l ++ r).Nodup := by
  rw [List.nodup_append]
  refine ⟨hl,hr,fun a ha b hb e => hn ⟨a,ha,e ▸ hb⟩⟩
 have := length_of_nodup (r := List.range m) hd fun x hx => by
  rcases List.mem_append.mp hx with h | h
  ·exact List.mem_range.mpr (bl x h)
  ·exact List.mem_range.mpr (br x h)
 rw [List.length_append,List.length_range] at this
 omega
theorem Chosen.ask {S : St} (I : Inv S) {b w : Int} (h : Chosen S b w) : .ask b w ∈ S.letters := by
 unfold Chosen at h
 obtain ⟨v,hv⟩ := List.exists_mem_of_length_pos (l := Vs S b w) (by omega)
 exact (I.vot b v w (mem_Vs.mp hv).2).2.1
theorem safe {S : St} (I : Inv S) {b w : Int} (h : Chosen S b w) : ∀ {b' w' : Int},b <= b' -> .ask b' w' ∈ S.letters -> w' = w := by
 have main : ∀ (n : Nat) (b' w' : Int),b' - b = (n : Int) -> .ask b' w' ∈ S.letters -> w' = w := by
  intro n
  induction n using Nat.strongRecOn with
  | _ n ih =>
   intro b' w' hn ha
   by_cases e : b' = b
   ·subst e; exact I.askU b' w' w ha (h.ask I)
   ·obtain ⟨_,vs,hvs⟩ := I.askP b' w' ha
    obtain ⟨_,hmaj,hso,hpr⟩ := I.back b' vs hvs
    obtain ⟨u,hu1,hu2⟩ := meet (sorted_nodup hso) (sorted_nodup (Vs_sorted S b w)) (fun v hv => by
     obtain ⟨l,hl⟩ := hpr v hv
     exact (I.prom b' v l hl).1) (fun v hv => (mem_Vs.mp hv).1) hmaj h
    have huv := (mem_Vs.mp hu2).2
    obtain ⟨l,hl⟩ := hpr u hu1
    obtain ⟨c',w'',e2,hc'⟩ := I.last2 b' u l b w hl huv (by omega)
    subst e2
    rcases I.wish b' w' vs ha hvs with ⟨h8,_⟩ | ⟨v,hv,c,h8,h9⟩
    ·have := I.promU b' u _ _ hl (h8 u hu1)
     cases this
    ·have hcc := h9 u hu1 c' w'' hl
     obtain ⟨hlt,hvo⟩ := I.last1 b' v c w' h8
     have hask := (I.vot c v w' hvo).2.1
     exact ih (c - b).toNat (by omega) c w' (by omega) hask
 intro b' w' hle ha
 exact main (b' - b).toNat b' w' (by omega) ha
theorem one {S : St} (I : Inv S) {b w b' w' : Int} (h : Chosen S b w) (h' : Chosen S b' w') : w = w' := by
 rcases Int.le_total b b' with e | e
 ·exact (safe I h e (h'.ask I)).symm
 ·exact safe I h' e (h.ask I)
theorem valid {S : St} (I : Inv S) {b w : Int} (h : .ask b w ∈ S.letters) : w ∈ S.wishes := by
 have main : ∀ (n : Nat) (b w : Int),b = (n : Int) -> .ask b w ∈ S.letters -> w ∈ S.wishes := by
  intro n
  induction n using Nat.strongRecOn with
  | _ n ih =>
   intro b w hn ha
   obtain ⟨_,vs,hvs⟩ := I.askP b w ha
   rcases I.wish b w vs ha hvs with ⟨_,h8⟩ | ⟨v,hv,c,h8,h9⟩
   ·exact List.mem_of_getElem? h8
   ·obtain ⟨hlt,hvo⟩ := I.last1 b v c w h8
    have hask := (I.vot c v w hvo).2.1
    have := (I.prep c (I.askP c w hask).1).1
    exact ih c.toNat (by omega) c w (by omega) hask
 have := (I.prep b (I.askP b w h).1).1
 exact main b.toNat b w (by omega) h
end M
set_option Elab.async false
set_option linter.all false
set_option maxHeartbeats 4000000
namespace P
open M (Let)
structure As where
 ballot : Option Int
 fresh : Int
 noted : List (Nat × Option (Int × Int))
 asked : List (Int × List Nat)
structure R where
 wishes : List Int
 many : Nat
 letters : List Let
 askers : Nat -> As
 voters : Nat -> M.Voter
def R.setA (S : R) (i : Nat) (a : As) : R := { S with askers := M.upd S.askers i a }
def R.setV (S : R) (i : Nat) (a : M.Voter) : R := { S with voters := M.upd S.voters i a }
def R.write (S : R) (x : Let) : R := { S with letters := M.write S.letters x }
def mx (i j : Int) : Int := if j > i then j else i
theorem mx_eq (i j : Int) : mx i j = max i j := by unfold mx; omega
def ownB (number n least : Int) : Int := mx least number + (number - mx least number) % n
def As.due (a : As) (i n : Nat) (least : Int) : Int := ownB i n (mx least a.fresh)
def As.begin (a : As) (i n : Nat) (least : Int) : As := { a with ballot := some (a.due i n least),fresh := a.due i n least + 1,noted := [] }
def R.begin (S : R) (i : Nat) (least : Int) : R :=
 (S.setA i ((S.askers i).begin i S.wishes.length least)).write (.prepare ((S.askers i).due i S.wishes.length least))
def R.fall (S : R) (i : Nat) : R := S.setA i { S.askers i with ballot := none }
def putL {κ α : Type} [DecidableEq κ] (l : List (κ × α)) (k : κ) (x : α) : List (κ × α) :=
 if (l.any fun kv => decide (kv.1 = k)) = true then l.map (fun kv => if kv.1 = k then (kv.1,x) else kv) else l ++ [(k,x)]
def getL {κ α : Type} [DecidableEq κ] (l : List (κ × α)) (k : κ) : Option α := (l.find? fun kv => decide (kv.1 = k)).map (·.2)
theorem map_rep {κ α : Type} [DecidableEq κ] {k : κ} {x : α} : ∀ {l : List (κ × α)},k ∉ l.map (·.1) -> l.map (fun kv => if kv.1 = k then (kv.1,x) else kv) = l
 | [],_ => rfl
 | (j,y) :: r,h => by
  simp only [List.map_cons,List.mem_cons,not_or] at h
  rw [List.map_cons,map_rep h.2,if_neg (fun e => h.1 e.symm)]
theorem putL_put {α : Type} {k : Nat} {x : α} : ∀ {l : List (Nat × α)},(l.map (·.1)).Nodup -> putL l k x = M.put k x l
 | [],_ => by simp [putL,M.put]
 | (j,y) :: r,h => by
  simp only [List.map_cons,List.nodup_cons] at h
  have ih := putL_put (k := k) (x := x) h.2
  unfold M.put
  unfold putL at ih ⊢
  by_cases e : j = k
  ·subst e
   rw [if_pos rfl,if_pos (by simp)]
   rw [List.map_cons,if_pos rfl,map_rep h.1]
  ·rw [if_neg e,<- ih]
   simp only [List.any_cons,e,decide_false,Bool.false_or]
   split
   ·rw [List.map_cons,if_neg e]
   ·rfl
theorem getL_none {κ α : Type} [DecidableEq κ] {l : List (κ × α)} {k : κ} : getL l k = none ↔ k ∉ l.map (·.1) := by
 unfold getL
 simp only [Option.map_eq_none_iff,List.find?_eq_none,decide_eq_true_eq,List.mem_map,not_exists,not_and]
theorem getL_app {κ α : Type} [DecidableEq κ] {l : List (κ × α)} {k j : κ} {x : α} (h : k ∉ l.map (·.1)) : getL (l ++ [(k,x)]) j = if j = k then some x else getL l j := by
 unfold getL
 rw [List.find?_append]
 by_cases e : j = k
 ·subst e
  have : l.find? (fun kv => decide (kv.1 = j)) = none := by
   have := getL_none.mpr h
   unfold getL at this
   simpa using this
  rw [this]; simp
 ·rw [if_neg e]
  have : ([(k,x)] : List (κ × α)).find? (fun kv => decide (kv.1 = j)) = none := by simp; exact fun z => e z.symm
  rw [this]; simp
theorem putL_new {κ α : Type} [DecidableEq κ] {l : List (κ × α)} {k : κ} {x : α} (h : k ∉ l.map (·.1)) : putL l k x = l ++ [(k,x)] := by
 unfold putL
 rw [if_neg]
 intro z
 simp only [List.any_eq_true,decide_eq_true_eq] at z
 obtain ⟨kv,h1,h2⟩ := z
 exact h (h2 ▸ List.mem_map_of_mem h1)
def ltP (a b : Int × Int) : Bool := decide (a.1 < b.1 ∨ (a.1 = b.1 /\ a.2 < b.2))
def maxP : List (Int × Int) -> Int × Int
 | [] => (0,0)
 | q :: r => r.foldl (fun acc q => if ltP acc q then q else acc) q
def lasts (l : List (Nat × Option (Int × Int))) : List (Int × Int) := l.filterMap (·.2)
def wishToAsk (w : Int) (l : List (Nat × Option (Int × Int))) : Int := if (lasts l).length = 0 then w else (maxP (lasts l)).2
def sortN (l : List Nat) : List Nat := l.mergeSort fun a b => decide (a <= b)
def R.note (S : R) (b : Int) (v : Nat) (l : Option (Int × Int)) : R :=
 let i := M.own S.wishes.length b
 let a := S.askers i
 if a.ballot = some b /\ getL a.asked b = none then
  let nt := putL a.noted v l
  if 2 * nt.length > S.many then
   (S.setA i { a with noted := nt,asked := putL a.asked b (sortN (nt.map (·.1))) }).write (.ask b (wishToAsk (S.wishes.getD i 0) nt))
  else S.setA i { a with noted := nt }
 else S
def R.hear (S : R) (x : Let) (v : Nat) : R := match x with
 | .prepare b => if M.lt? (S.voters v).promised b then (S.setV v ⟨some b,(S.voters v).voted⟩).write (.promise b v (S.voters v).voted) else S
 | .ask b w => if M.le? (S.voters v).promised b then (S.setV v ⟨some b,some (b,w)⟩).write (.vote b v w) else S
 | .promise b u l => S.note b u l
 | .vote _ _ _ => S
def R.bring (S : R) (k v : Nat) : R := match S.letters[k]? with
 | some x => S.hear x v
 | none => S
def R.backers (S : R) (b : Int) : Option (List Nat) := (List.range S.wishes.length).findSome? fun i => getL (S.askers i).asked b
def new (wishes : List Int) (many : Nat) : R := ⟨wishes,many,[],fun _ => ⟨none,0,[],[]⟩,fun _ => ⟨none,none⟩⟩
structure Sim (S : R) (D : M.St) : Prop where
 w : S.wishes = D.wishes
 m : S.many = D.many
 l : S.letters = D.letters
 v : S.voters = D.voters
 bl : ∀ i,(S.askers i).ballot = (D.askers i).ballot
 fr : ∀ i,(S.askers i).fresh = match (D.askers i).last with | none => 0 | some x => x + 1
 nt : ∀ i,(S.askers i).noted = (D.askers i).noted
 ak : ∀ i b,getL (S.askers i).asked b = if M.own S.wishes.length b = i then D.backers b else none
 av : ∀ i b,(S.askers i).ballot = some b -> ((D.askers i).asked = true ↔ (getL (S.askers i).asked b).isSome = true)
theorem Sim.new {wishes : List Int} {many : Nat} : Sim (P.new wishes many) (M.new wishes many) := by
 constructor <;> simp [P.new,M.new,getL]
 intro i b; by_cases c : M.own wishes.length b = i <;> simp [c]
theorem sim_fall {S : R} {D : M.St} (h : Sim S D) (i : Nat) : Sim (S.fall i) (D.fall i) := by
 obtain ⟨w,m,l,v,bl,fr,nt,ak,av⟩ := h
 refine ⟨w,m,l,v,fun j => ?_,fun j => ?_,fun j => ?_,fun j b => ?_,fun j b hb => ?_⟩
 all_goals simp only [R.fall,R.setA,M.St.fall,M.upd] at *
 ·split <;> simp [bl]
 ·split
  ·rename_i e; subst e; simp [fr]
  ·exact fr j
 ·split <;> simp [nt]
 ·split
  ·rename_i e; subst e; exact ak j b
  ·exact ak j b
 ·split at hb
  ·cases hb
  ·rename_i e; simp only [if_neg e]; exact av j b hb
theorem due_eq {S : R} {D : M.St} (h : Sim S D) (I : M.Inv D) {i : Nat} {least : Int} (hi : i < D.wishes.length) (hl : 0 <= least) : (S.askers i).due i S.wishes.length least = D.due i least := by
 have hlow : mx least (S.askers i).fresh = D.low i least := by
  rw [mx_eq,h.fr i]
  unfold M.St.low
  cases (D.askers i).last with
  | none => simp only; omega
  | some l => rfl
 have h0 : 0 <= D.low i least := by rw [<- hlow,mx_eq]; omega
 unfold As.due ownB M.St.due
 rw [hlow,mx_eq,h.w]
 by_cases c : D.low i least <= i
 ·rw [Int.max_eq_right c,Int.sub_self,Int.zero_emod,Int.emod_eq_of_lt (by omega) (by omega)]
  omega
 ·rw [Int.max_eq_left (by omega)]
theorem sim_begin {S : R} {D : M.St} (h : Sim S D) (I : M.Inv D) {i : Nat} {least : Int} (hi : i < D.wishes.length) (hl : 0 <= least) : Sim (S.begin i least) (D.begin i least) := by
 have hd := due_eq h I hi hl
 obtain ⟨w,m,l,v,bl,fr,nt,ak,av⟩ := h
 have hge := M.due_ge D i least I.n0
 have hlow : ∀ x,(D.askers i).last = some x -> x < D.low i least := by
  intro x e; unfold M.St.low; rw [e]; simp only; omega
 refine ⟨w,m,?_,v,fun j => ?_,fun j => ?_,fun j => ?_,fun j b => ?_,fun j b hb => ?_⟩
 all_goals simp only [R.begin,R.setA,R.write,As.begin,M.St.begin,M.upd] at *
 ·rw [hd,l]
 ·split <;> simp [bl,hd]
 ·split
  ·simp [hd]
  ·exact fr j
 ·split <;> simp [nt]
 ·split
  ·rename_i e; subst e; exact ak j b
  ·exact ak j b
 ·split at hb
  ·rename_i e; subst e
   simp only [if_pos] at *
   simp only [Option.some.injEq] at hb
   rw [hd] at hb
   rw [ak j b]
   have : D.backers b = none := by
    cases e : D.backers b with
    | none => rfl
    | some vs =>
     obtain ⟨⟨w',hw⟩,_⟩ := I.back b vs e
     obtain ⟨hp,_⟩ := I.askP b w' hw
     obtain ⟨_,x,hx,hle⟩ := I.prep b hp
     rw [<- hb,M.due_own D least hi] at hx
     have := hlow x hx
     omega
   rw [this]; simp
  ·rename_i e; simp only [if_neg e]; exact av j b hb
theorem ltP_total {a b : Int × Int} : ltP a b = false ↔ (b.1 < a.1 ∨ (a.1 = b.1 /\ b.2 <= a.2)) := by
 unfold ltP; rw [decide_eq_false_iff_not]; omega
theorem maxP_acc : ∀ (l : List (Int × Int)) (a : Int × Int),(l.foldl (fun acc q => if ltP acc q then q else acc) a = a ∨ l.foldl (fun acc q => if ltP acc q then q else acc) a ∈ l) /\
  ∀ c,(c = a ∨ c ∈ l) -> c.1 <= (l.foldl (fun acc q => if ltP acc q then q else acc) a).1
 | [],a => by simp
 | q :: r,a => by
  rw [List.foldl_cons]
  have ih := maxP_acc r (if ltP a q then q else a)
  cases e : ltP a q with
  | true =>
   rw [e] at ih
   simp only [if_true] at ih ⊢
   unfold ltP at e
   simp only [decide_eq_true_eq] at e
   have h3 := ih.2 q (.inl rfl)
   refine ⟨?_,?_⟩
   ·rcases ih.1 with h | h
    ·exact .inr (by rw [h]; exact List.mem_cons_self)
    ·exact .inr (List.mem_cons_of_mem _ h)
   ·rintro c (h | h)
    ·subst h; omega
    ·rcases List.mem_cons.mp h with h | h
     ·subst h; exact h3
     ·exact ih.2 c (.inr h)
  | false =>
   rw [e] at ih
   simp only [Bool.false_eq_true,if_false] at ih ⊢
   rw [ltP_total] at e
   have h3 := ih.2 a (.inl rfl)
   refine ⟨?_,?_⟩
   ·rcases ih.1 with h | h
    ·exact .inl h
    ·exact .inr (List.mem_cons_of_mem _ h)
   ·rintro c (h | h)
    ·subst h; exact h3
    ·rcases List.mem_cons.mp h with h | h
     ·subst h; omega
     ·exact ih.2 c (.inr h)
theorem maxP_mem {l : List (Int × Int)} (h : l ≠ []) : maxP l ∈ l := by
 cases l with
 | nil => exact absurd rfl h
 | cons q r =>
  rcases (maxP_acc r q).1 with e | e
  ·show r.foldl _ q ∈ _; rw [e]; exact List.mem_cons_self
  ·exact List.mem_cons_of_mem _ e
theorem maxP_ge {l : List (Int × Int)} {c : Int × Int} (h : c ∈ l) : c.1 <= (maxP l).1 := by
 cases l with
 | nil => cases h
 | cons q r => exact (maxP_acc r q).2 c (List.mem_cons.mp h)
theorem mem_lasts {l : List (Nat × Option (Int × Int))} {q : Int × Int} : q ∈ lasts l ↔ ∃ v,(v,some q) ∈ l := by
 unfold lasts
 rw [List.mem_filterMap]
 constructor
 ·rintro ⟨⟨v,o⟩,h,e⟩; simp only at e; subst e; exact ⟨v,h⟩
 ·rintro ⟨v,h⟩; exact ⟨_,h,rfl⟩
theorem wish_eq {l : List (Nat × Option (Int × Int))} {w : Int} (u : ∀ v v' c x x',(v,some (c,x)) ∈ l -> (v',some (c,x')) ∈ l -> x = x') :
  wishToAsk w l = match M.best l with | some q => q.2 | none => w := by
 unfold wishToAsk
 cases e : M.best l with
 | none =>
  have : lasts l = [] := by
   cases e2 : lasts l with
   | nil => rfl
   | cons q r =>
    obtain ⟨v,hv⟩ := mem_lasts.mp (show q ∈ lasts l by rw [e2]; exact List.mem_cons_self)
    exact absurd hv (M.best_none e v q)
  rw [this]; rfl
 | some q =>
  obtain ⟨v,hv⟩ := M.best_mem e
  have hq : q ∈ lasts l := mem_lasts.mpr ⟨v,hv⟩
  have hne : lasts l ≠ [] := by intro z; rw [z] at hq; cases hq
  rw [if_neg (by rw [List.length_eq_zero_iff]; exact hne)]
  have h1 := maxP_ge hq
  obtain ⟨v',hv'⟩ := mem_lasts.mp (maxP_mem hne)
  have h2 := M.best_ge e hv'
  have h3 : (maxP (lasts l)).1 = q.1 := by omega
  exact u v' v q.1 _ _ (by rw [<- h3]; exact hv') hv
theorem sortN_keys {m : Nat} {l : List (Nat × Option (Int × Int))} (nd : (l.map (·.1)).Nodup) (h : ∀ v x,(v,x) ∈ l -> v < m) : sortN (l.map (·.1)) = M.keysOf m l := by
 have hp : (sortN (l.map (·.1))).Perm (l.map (·.1)) := List.mergeSort_perm _ _
 have hs : (sortN (l.map (·.1))).Pairwise fun a b => a <= b := by
  have := List.pairwise_mergeSort (le := fun a b : Nat => decide (a <= b)) (fun a b c => by simp; omega) (fun a b => by simp; omega) (l.map (·.1))
  exact this.imp fun h => by simpa using h
 have hk : (M.keysOf m l).Perm (l.map (·.1)) := by
  rw [List.perm_ext_iff_of_nodup (M.sorted_nodup (M.keysOf_sorted m l)) nd]
  intro v
  rw [M.mem_keysOf]
  constructor
  ·exact fun h => h.2
  ·intro hv
   refine ⟨?_,hv⟩
   obtain ⟨⟨v',x⟩,h1,h2⟩ := List.mem_map.mp hv
   simp only at h2; subst h2
   exact h v' x h1
 exact (hp.trans hk.symm).eq_of_pairwise (le := fun a b => a <= b) (fun a b _ _ h1 h2 => by omega) hs ((M.keysOf_sorted m l).imp fun h => Nat.le_of_lt h)
theorem own_lt {n : Nat} {b : Int} (h : 0 < n) : M.own n b < n := by
 unfold M.own
 have h1 := Int.emod_nonneg b (b := (n : Int)) (by omega)
 have h2 := Int.emod_lt_of_pos b (b := (n : Int)) (by omega)
 omega
theorem sim_note {S : R} {D : M.St} (h : Sim S D) (I : M.Inv D) {b : Int} {v : Nat} {l : Option (Int × Int)} (hm : .promise b v l ∈ D.letters) : Sim (S.note b v l) (D.note b v l) := by
 have hs := h
 obtain ⟨w,m,le,vo,bl,fr,nt,ak,av⟩ := h
 have ev : (S.askers (M.own S.wishes.length b)).ballot = some b /\ getL (S.askers (M.own S.wishes.length b)).asked b = none ↔ (D.askers (M.own D.wishes.length b)).ballot = some b /\ (D.askers (M.own D.wishes.length b)).asked = false := by
  rw [w] at ak ⊢
  rw [bl]
  constructor
  ·rintro ⟨h1,h2⟩
   refine ⟨h1,?_⟩
   have := av _ b (by rw [bl]; exact h1)
   rw [h2] at this
   simpa using this
  ·rintro ⟨h1,h2⟩
   refine ⟨h1,?_⟩
   have := av _ b (by rw [bl]; exact h1)
   rw [h2] at this
   simpa using this
 unfold R.note M.St.note
 simp only
 by_cases c : (D.askers (M.own D.wishes.length b)).ballot = some b /\ (D.askers (M.own D.wishes.length b)).asked = false
 ·rw [if_pos (ev.mpr c),if_pos c]
  have hnd := I.notedU (M.own D.wishes.length b)
  have eput : putL (S.askers (M.own S.wishes.length b)).noted v l = M.put v l (D.askers (M.own D.wishes.length b)).noted := by
   rw [w,nt]; exact putL_put hnd
  have hpr : ∀ u x,(u,x) ∈ M.put v l (D.askers (M.own D.wishes.length b)).noted -> .promise b u x ∈ D.letters := by
   intro u x hu
   rcases M.mem_put hu with e | e
   ·cases e; exact hm
   ·exact I.noted _ b u x c.1 e
  rw [eput,m]
  by_cases c2 : D.many < 2 * (M.put v l (D.askers (M.own D.wishes.length b)).noted).length
  ·rw [if_pos c2,if_pos c2]
   have hb : D.backers b = none := by
    have := (ev.mpr c).2
    rw [ak,if_pos rfl] at this
    exact this
   have hgn : b ∉ ((S.askers (M.own S.wishes.length b)).asked).map (·.1) := getL_none.mp (ev.mpr c).2
   have esort : sortN ((M.put v l (D.askers (M.own D.wishes.length b)).noted).map (·.1)) = M.keysOf D.many (M.put v l (D.askers (M.own D.wishes.length b)).noted) :=
    sortN_keys (M.put_nodup hnd) fun u x hu => (I.prom b u x (hpr u x hu)).1
   have ewish : wishToAsk (S.wishes.getD (M.own S.wishes.length b) 0) (M.put v l (D.askers (M.own D.wishes.length b)).noted) = D.wishOf b (M.put v l (D.askers (M.own D.wishes.length b)).noted) := by
    rw [wish_eq,w]
    ·rfl
    ·intro u u' c x x' h1 h2
     have a1 := (I.last1 b u c x (hpr u _ h1)).2
     have a2 := (I.last1 b u' c x' (hpr u' _ h2)).2
     exact I.askU c x x' (I.vot c u x a1).2.1 (I.vot c u' x' a2).2.1
   rw [esort,ewish]
   refine ⟨w,m,?_,vo,fun j => ?_,fun j => ?_,fun j => ?_,fun j b' => ?_,fun j b' hb' => ?_⟩
   all_goals simp only [R.setA,R.write,M.upd] at *
   ·rw [le]
   ·rw [w]; split <;> simp [bl]
   ·rw [w]; split
    ·rename_i e; subst e; simp [fr]
    ·exact fr j
   ·rw [w]; split <;> simp [nt]
   ·split
    ·rename_i e; subst e
     rw [putL_new hgn,getL_app hgn,ak]
     by_cases e : b' = b
     ·subst e; simp
     ·simp [e]
    ·rename_i e
     rw [ak]
     by_cases e2 : b' = b
     ·subst e2
      have e' : ¬ M.own S.wishes.length b' = j := fun z => e z.symm
      simp [e']
     ·simp [e2]
   ·rw [w] at hb' ⊢
    split at hb'
    ·rename_i e; subst e
     simp only [if_pos] at *
     rw [bl,c.1] at hb'
     cases hb'
     rw [w] at hgn
     rw [putL_new hgn,getL_app hgn]
     simp
    ·rename_i e; simp only [if_neg e]; exact av j b' hb'
  ·rw [if_neg c2,if_neg c2]
   refine ⟨w,m,le,vo,fun j => ?_,fun j => ?_,fun j => ?_,fun j b' => ?_,fun j b' hb' => ?_⟩
   all_goals simp only [R.setA,M.upd] at *
   ·rw [w]; split <;> simp [bl]
   ·rw [w]; split
    ·rename_i e; subst e; simp [fr]
    ·exact fr j
   ·rw [w]; split <;> simp [nt]
   ·split
    ·rename_i e; subst e; exact ak _ b'
    ·exact ak _ b'
   ·rw [w] at hb' ⊢
    split at hb'
    ·rename_i e; subst e; simp only [if_pos] at *; exact av _ b' hb'
    ·rename_i e; simp only [if_neg e]; exact av j b' hb'
 ·rw [if_neg (fun z => c (ev.mp z)),if_neg c]
  exact hs
theorem sim_hear {S : R} {D : M.St} (h : Sim S D) (I : M.Inv D) {x : Let} (hx : x ∈ D.letters) (v : Nat) : Sim (S.hear x v) (D.hear x v) := by
 cases x with
 | promise b u l => exact sim_note h I hx
 | vote b u w => exact h
 | prepare b =>
  simp only [R.hear,M.St.hear]
  rw [h.v]
  split
  ·exact ⟨h.w,h.m,by simp only [R.write,R.setV]; rw [h.l],by simp only [R.write,R.setV]; rw [h.v],h.bl,h.fr,h.nt,h.ak,h.av⟩
  ·exact h
 | ask b w =>
  simp only [R.hear,M.St.hear]
  rw [h.v]
  split
  ·exact ⟨h.w,h.m,by simp only [R.write,R.setV]; rw [h.l],by simp only [R.write,R.setV]; rw [h.v],h.bl,h.fr,h.nt,h.ak,h.av⟩
  ·exact h
theorem sim_bring {S : R} {D : M.St} (h : Sim S D) (I : M.Inv D) (k v : Nat) : Sim (S.bring k v) (D.bring k v) := by
 unfold R.bring M.St.bring
 rw [h.l]
 cases e : D.letters[k]? with
 | some x => exact sim_hear h I (List.mem_of_getElem? e) v
 | none => exact h
def Good (S : R) : Prop := ∃ D,Sim S D /\ M.Inv D
theorem Good.new {wishes : List Int} {many : Nat} (h : 0 < wishes.length) : Good (new wishes many) := ⟨_,Sim.new,M.Inv.new h⟩
theorem Good.n0 {S : R} (g : Good S) : 0 < S.wishes.length := by obtain ⟨D,s,I⟩ := g; rw [s.w]; exact I.n0
theorem Good.begin {S : R} (g : Good S) {i : Nat} {least : Int} (hi : i < S.wishes.length) (hl : 0 <= least) : Good (S.begin i least) := by
 obtain ⟨D,s,I⟩ := g
 rw [s.w] at hi
 exact ⟨_,sim_begin s I hi hl,I.begin hi hl⟩
theorem Good.fall {S : R} (g : Good S) (i : Nat) : Good (S.fall i) := by
 obtain ⟨D,s,I⟩ := g
 exact ⟨_,sim_fall s i,I.fall i⟩
theorem Good.bring {S : R} (g : Good S) (k : Nat) {v : Nat} (hv : v < S.many) : Good (S.bring k v) := by
 obtain ⟨D,s,I⟩ := g
 rw [s.m] at hv
 exact ⟨_,sim_bring s I k v,I.bring k hv⟩
structure Lite (S : R) : Prop where
 n0 : 0 < S.wishes.length
 f0 : ∀ i,0 <= (S.askers i).fresh
 pr : ∀ b,M.Let.prepare b ∈ S.letters -> ∃ i,i < S.wishes.length /\ b % (S.wishes.length : Int) = i /\ b < (S.askers i).fresh
end P
set_option Elab.async false
set_option linter.all false
set_option maxRecDepth 100000
set_option maxHeartbeats 4000000
namespace L2
open PySem PySem.Spec PyProof.Rows
def Keeps (h₀ h : Heap) : Prop := ∀ b o,h₀.get? b = some o -> h.get? b = some o
def CmpIn (prog : Program) (w : World) (A : Around) (op : CmpOp) (h₀ : Heap) (P : Nat -> Value -> Prop) (bt : Nat -> Nat -> Bool) : Prop :=
 ∀ (i j : Nat) (u v : Value) (s : Shared) (Q E : Value -> Shared -> Prop),Keeps h₀ s.heap -> P i u -> P j v -> Q (.bool (bt i j)) s -> wpAny (model prog w) A (richCompare op u v) Q E s
section
variable {prog : Program} {w : World} {A : Around} {E : Value -> Shared -> Prop} {s : Shared}
theorem gt_pair {x y : Addr} {a b c d : Int} {t u t' u' : Tok} {Q : Value -> Shared -> Prop} (hu : A.units < cLine) (hx : s.heap.IsTuple x #[.int a t,.int b u]) (hy : s.heap.IsTuple y #[.int c t',.int d u'])
  (q : Q (.bool (P.ltP (c,d) (a,b))) s) : wpAny (model prog w) A (richCompare .Gt (.ref x) (.ref y)) Q E s := by
 obtain ⟨ox,x1,x2,nx,x3⟩ := hx
 obtain ⟨oy,y1,y2,ny,y3⟩ := hy
 have tx : s.TypeIs (.ref x) "tuple" := ⟨ox,x1,x2⟩
 have ty : s.TypeIs (.ref y) "tuple" := ⟨oy,y1,y2⟩
 refine wpAny_richCompare_same_room tx ty F.slot_tuple_gt (wpAny_call_entry F.slot_tuple_gt tx F.entry_tuple_gt ?_ (F.args_tuple_gt_2 _ _)) hu
 change wpAny _ _ (isInstance (.ref y) (.type "tuple") >>= fun _ => _) _ _ s
 refine wpAny_bind (wpAny_isInstance ty isSubtype_tuple_tuple ?_)
 simp only [Bool.not_true,Bool.false_eq_true,if_false]
 refine wpAny_bind (wpAny_tupleItemsOf x1 x3 (wpAny_bind (wpAny_tupleItemsOf y1 y3 ?_)))
 simp only [List.zip_cons_cons,List.zip_nil_right,List.forIn_cons,List.forIn_nil]
 refine wpAny_bind (wpAny_bind (wpAny_bind (wpAny_eqBool_int ?_)))
 have gi : ∀ (i j : Int) (v v' : Tok) (A' : Around) (Q' : Value -> Shared -> Prop),Q' (.bool (decide (i > j))) s -> wpAny (model prog w) A' (richCompare .Gt (.int i v) (.int j v')) Q' E s := fun i j v v' A' Q' h =>
  richCompare_gives (op := .Gt) (typeIs_int s _ v) (typeIs_int s _ v') F.slot_int_gt F.entry_int_gt (F.args_int_gt_2 _ _) (gives_int_gt _ _ v v') (fun x => nomatch x) h
 by_cases e : a = c
 ·subst e
  simp only [BEq.rfl,Bool.not_true,Bool.false_eq_true,if_false]
  refine wpAny_pure (wpAny_bind (wpAny_bind (wpAny_eqBool_int ?_)))
  by_cases e : b = d
  ·subst e
   simp only [BEq.rfl,Bool.not_true,Bool.false_eq_true,if_false]
   refine wpAny_pure (wpAny_pure ?_)
   have z : P.ltP (a,b) (a,b) = false := by simp [P.ltP]
   rw [z] at q
   exact wpAny_pure ⟨.bool false,rfl,(fun x => nomatch x),q⟩
  ·have e' : (b == d) = false := by simpa using e
   simp only [e',Bool.not_false,if_true]
   refine wpAny_bind (wpAny_rule (wpAny_bind (gi b d _ _ _ _ ?_)))
   have z : P.ltP (a,d) (a,b) = decide (b > d) := by simp [P.ltP]
   rw [z] at q
   exact wpAny_bind (wpAny_pure (wpAny_pure (wpAny_pure (wpAny_pure ⟨_,rfl,(fun x => nomatch x),q⟩))))
 ·have e' : (a == c) = false := by simpa using e
  simp only [e',Bool.not_false,if_true]
  refine wpAny_bind (wpAny_rule (wpAny_bind (gi a c _ _ _ _ ?_)))
  have z : P.ltP (c,d) (a,b) = decide (a > c) := by simp [P.ltP]; intro h; omega
  rw [z] at q
  exact wpAny_bind (wpAny_pure (wpAny_pure (wpAny_pure (wpAny_pure ⟨_,rfl,(fun x => nomatch x),q⟩))))
end
section
variable {prog : Program} {w : World} {A : Around} {R : Result -> Shared -> Prop} {I : Addr} {fp wr : List Addr} {n : Nat} {P : Nat -> Value -> Prop} {St : Nat -> Heap -> Prop}
abbrev two (best : Value) (c : Nat) : Obj := { cls := .type "list",dict := none,data := .seq #[best,best] c,slots := #[] }
theorem mx_loop {bt : Nat -> Nat -> Bool} {h₀ : Heap} {S : Addr} (W : Walks prog w A.in1 I fp wr n P St) (cmp : CmpIn prog w A.in1 .Gt h₀ P bt) (nS : S ∉ fp) (w0 : ∀ b ∈ wr,h₀.get? b = none) (s0 : h₀.get? S = none) :
  ∀ (k j : Nat) (s : Shared) (best : Value) (c : Nat),n - (j + 1) = k -> j + 1 <= n -> St (j + 1) s.heap -> Keeps h₀ s.heap -> P (argBest bt j) best -> s.heap.get? S = some (two best c) ->
   (∀ v g tk,P (argBest bt (n - 1)) v -> Keeps h₀ g -> R (.ok (.ret v)) { s with heap := g,toks := tk }) -> codeAny (model prog w) A (.builtin "max.loop" ⟨[.ref I,.none,.ref S],[]⟩) R s := by
 have nw : S ∉ wr := fun h => nS (W.sub _ h)
 have nm : (toString "max" ++ toString ".loop" : String) = "max.loop" := by decide
 have stay : ∀ {h g : Heap},Keeps h₀ h -> (∀ b o,b ∉ wr -> h.get? b = some o -> g.get? b = some o) -> Keeps h₀ g := fun {h g} kp kk b o e => kk b o (fun z => by rw [w0 b z] at e; cases e) (kp b o e)
 have stay2 : ∀ {h : Heap} {f : Obj -> Obj},Keeps h₀ h -> Keeps h₀ (h.update S f) := fun {h f} kp b o e => (Heap.get?_update_other _ _ (fun z : S = b => by rw [<- z,s0] at e; cases e)).trans (kp b o e)
 intro k
 induction k with
 | zero =>
  intro j s best c hk hj hst kp pb hS hR
  have e : j + 1 = n := by omega
  refine codeAny_builtin F.entry_max_loop ?_
  rw [Around.under_plainId F.plain_max_loop _]
  change wpAny _ A.in1 (seqItems? (.ref S) >>= fun _ => _) _ _ s
  refine wpAny_bind (wpAny_seqItems hS rfl ?_)
  change wpAny _ A.in1 (tryCatch (pyNext (.ref I)) _ >>= fun _ => _) _ _ s
  refine wpAny_bind (wpAny_tryCatch (W.done s _ _ (e ▸ hst) fun g tk kk => ?_))
  change wpAny _ A.in1 (updateSeq S (fun _ => #[]) >>= fun _ => _) _ _ _
  exact wpAny_bind (wpAny_updateSeq (kk S _ nw hS) rfl (wpAny_bind (wpAny_letGo (wpAny_pure (hR best _ tk (by rw [<- e]; exact pb) (stay2 (stay kp kk)))))))
 | succ k ih =>
  intro j s best c hk hj hst kp pb hS hR
  have lt : j + 1 < n := by omega
  refine codeAny_builtin F.entry_max_loop ?_
  rw [Around.under_plainId F.plain_max_loop _]
  change wpAny _ A.in1 (seqItems? (.ref S) >>= fun _ => _) _ _ s
  refine wpAny_bind (wpAny_seqItems hS rfl ?_)
  change wpAny _ A.in1 (tryCatch (pyNext (.ref I)) _ >>= fun _ => _) _ _ s
  refine wpAny_bind (wpAny_tryCatch (W.item (j + 1) s _ _ lt hst fun v g tk pv st' kk => ?_))
  have hS' := kk S _ nw hS
  change wpAny _ A.in1 (tryCatch (holding [v,v] (richCompare .Gt v best >>= fun _ => _)) _ >>= fun _ => _) _ _ _
  refine wpAny_bind (wpAny_tryCatch (wpAny_holding (wpAny_bind (cmp (j + 1) (argBest bt j) v best _ _ _ (stay kp kk) pv pb (wpAny_bind (wpAny_holding (wpAny_truthy_bool ?_)))))))
  refine wpAny_bind (wpAny_letGo (wpAny_pure ?_))
  cases hb : bt (j + 1) (argBest bt j) with
  | true =>
   rw [if_pos rfl]
   refine wpAny_bind (wpAny_updateSeq hS' rfl (wpAny_bind (wpAny_letGo ?_)))
   rw [nm]
   exact wpAny_pure ⟨plainId_quiet F.plain_max_loop _,ih (j + 1) _ v _ (by omega) lt (W.frame _ _ _ st' fun b hf o e => (Heap.get?_update_other _ _ (fun z : S = b => nS (by rw [z]; exact hf))).trans e) (stay2 (stay kp kk))
    (by simp only [argBest,hb,if_true]; exact pv) (Heap.get?_update_self _ hS' rfl) fun v' g' tk' p' k' => hR v' g' tk' p' k'⟩
  | false =>
   rw [if_neg Bool.false_ne_true]
   refine wpAny_bind (wpAny_letGo ?_)
   rw [nm]
   exact wpAny_pure ⟨plainId_quiet F.plain_max_loop _,ih (j + 1) _ best c (by omega) lt st' (stay kp kk) (by simp only [argBest,hb,Bool.false_eq_true,if_false]; exact pb) hS' fun v' g' tk' p' k' => hR v' g' tk' p' k'⟩
end
section
variable {prog : Program} {w : World} {A : Around} {E : Value -> Shared -> Prop} {s : Shared}
theorem max_of {l : Addr} {items : Array Value} {bt : Nat -> Nat -> Bool} {Q : Value -> Shared -> Prop} (hh : A.handled = none) (hl : s.heap.IsList l items) (n0 : 0 < items.size) (cmp : CmpIn prog w A.in1 .Gt s.heap (fun i v => items[i]? = some v) bt)
  (q : ∀ v g tk,items[argBest bt (items.size - 1)]? = some v -> Keeps s.heap g -> Q v { s with heap := g,toks := tk }) : wpAny (model prog w) A (call (.builtin "max") [.ref l]) Q E s := by
 have nm : (toString "max" ++ toString ".loop" : String) = "max.loop" := by decide
 have ll : l < s.heap.objs.size := let ⟨_,e,_⟩ := hl; Heap.lt_size e
 have W := Walks.list (prog := prog) (w := w) (A := A.in1) hh s.heap.objs.size l (Nat.ne_of_lt ll) items
 refine call_function_tree F.kind_max F.plain_max F.entry_max (F.args_max1 _) ?_
 change wpAny _ A.in1 (Builtin.Builtins.bindParams "max" ["key","default"] 0 ⟨[],[]⟩ >>= fun _ => _) _ _ s
 refine wpAny_bind (wpAny_of_eq (a := [none,none]) rfl (wpAny_bind (wpAny_pure (wpAny_bind (wpAny_pyIter_list hl (wpAny_bind (wpAny_newObj_type ?_)))))))
 rw [nm]
 have k1 : Keeps s.heap (s.heap.push { cls := .type "list_iterator",data := .fields #[.ref l,.int 0 0] }) := fun b o e => Heap.get?_push_of_some _ e
 have z1 : (s.heap.push { cls := .type "list_iterator",data := .fields #[.ref l,.int 0 0] }).objs.size = s.heap.objs.size + 1 := Heap.size_push ..
 have nS : (s.heap.push { cls := .type "list_iterator",data := .fields #[.ref l,.int 0 0] }).objs.size ∉ [s.heap.objs.size,l] := by
  rw [z1]; intro h
  rcases List.mem_cons.mp h with h | h
  ·exact Nat.succ_ne_self _ h
  ·exact Nat.ne_of_gt (Nat.lt_succ_of_lt ll) (List.mem_singleton.mp h)
 have w0 : ∀ b ∈ [s.heap.objs.size],s.heap.get? b = none := fun b hb => by
  obtain rfl := List.mem_singleton.mp hb
  cases e : s.heap.get? s.heap.objs.size with
  | none => rfl
  | some o => exact absurd (Heap.lt_size e) (Nat.lt_irrefl _)
 have s0 : s.heap.get? (s.heap.push { cls := .type "list_iterator",data := .fields #[.ref l,.int 0 0] }).objs.size = none := by
  cases e : s.heap.get? (s.heap.push { cls := .type "list_iterator",data := .fields #[.ref l,.int 0 0] }).objs.size with
  | none => rfl
  | some o => have := Heap.lt_size e; rw [z1] at this; exact absurd this (Nat.not_succ_lt_self)
 have nw : (s.heap.push { cls := .type "list_iterator",data := .fields #[.ref l,.int 0 0] }).objs.size ∉ [s.heap.objs.size] := fun h => nS (W.sub _ h)
 refine wpAny_pure ⟨plainId_quiet F.plain_max_loop _,codeAny_builtin F.entry_max_loop ?_⟩
 rw [Around.under_plainId F.plain_max_loop _]
 change wpAny _ A.in1 (seqItems? (.ref _) >>= fun _ => _) _ _ _
 refine wpAny_bind (wpAny_seqItems (Heap.get?_push_size _ rfl) rfl ?_)
 change wpAny _ A.in1 (tryCatch (pyNext (.ref _)) _ >>= fun _ => _) _ _ _
 have st0 : (fun i (h : Heap) => h.IsListIter s.heap.objs.size l i /\ h.IsList l items) 0 ((s.heap.push { cls := .type "list_iterator",data := .fields #[.ref l,.int 0 0] }).push { cls := .type "list",data := .seq ([] : List Value).toArray }) :=
  ⟨⟨_,Heap.get?_push_of_some _ (Heap.get?_push_size _ rfl),rfl,rfl⟩,let ⟨o,e,r⟩ := hl; ⟨o,Heap.get?_push_of_some _ (k1 l o e),r⟩⟩
 refine wpAny_bind (wpAny_tryCatch (W.item 0 _ _ _ n0 st0 fun v g tk pv st' kk => ?_))
 have hS' := kk _ _ nw (Heap.get?_push_size _ rfl)
 change wpAny _ A.in1 (updateSeq _ (fun _ => #[v,v]) >>= fun _ => _) _ _ _
 refine wpAny_bind (wpAny_updateSeq hS' rfl ?_)
 rw [nm]
 have kg : Keeps s.heap g := fun b o e => kk b o (fun z => by rw [w0 b z] at e; cases e) (Heap.get?_push_of_some _ (k1 b o e))
 refine wpAny_pure ⟨plainId_quiet F.plain_max_loop _,mx_loop W cmp nS w0 s0 _ 0 _ v _ rfl n0 (W.frame _ _ _ st' fun b hf o e => (Heap.get?_update_other _ _ (fun z => nS (by rw [z]; exact hf))).trans e) (fun b o e => (Heap.get?_update_other _ _ (fun z => by rw [z,e] at s0; cases s0)).trans (kg b o e)) pv (Heap.get?_update_self _ hS' rfl) fun v' g' tk' p' k' => q v' g' tk' p' k'⟩
end
theorem paired_get {α β : Type} {F : α -> β -> Prop} : ∀ {l : List α} {r : List β} {i : Nat} {x : α},Paired F l r -> l[i]? = some x -> ∃ y,r[i]? = some y /\ F x y
 | _,_,_,_,.nil,e => by simp at e
 | _,_,0,_,.cons h _,e => by simp at e; subst e; exact ⟨_,rfl,h⟩
 | _,_,i + 1,x,.cons _ t,e => by
  obtain ⟨y,h1,h2⟩ := paired_get (i := i) (x := x) t (by simpa using e)
  exact ⟨y,by simpa using h1,h2⟩
def bestL {α : Type} (lt : α -> α -> Bool) (x : α) (r : List α) : α := r.foldl (fun acc q => if lt acc q then q else acc) x
theorem argBest_fold {α : Type} {lt : α -> α -> Bool} {d x : α} {r : List α} : ∀ k,k <= r.length -> argBest (fun i j => lt ((x :: r).getD j d) ((x :: r).getD i d)) k <= k /\ (x :: r)[argBest (fun i j => lt ((x :: r).getD j d) ((x :: r).getD i d)) k]? = some (bestL lt x (r.take k))
 | 0,_ => ⟨Nat.le_refl _,by simp [argBest,bestL]⟩
 | k + 1,h => by
  obtain ⟨h1,h2⟩ := argBest_fold (lt := lt) (d := d) (x := x) (r := r) k (by omega)
  have hk : k < r.length := by omega
  have e1 : r.take (k + 1) = r.take k ++ [r[k]] := by rw [List.take_succ_eq_append_getElem hk]
  have e2 : (x :: r).getD (k + 1) d = r[k] := by simp [hk]
  have e3 : (x :: r).getD (argBest (fun i j => lt ((x :: r).getD j d) ((x :: r).getD i d)) k) d = bestL lt x (r.take k) := by rw [List.getD_eq_getElem?_getD,h2]; rfl
  have e4 : bestL lt x (r.take (k + 1)) = if lt (bestL lt x (r.take k)) r[k] then r[k] else bestL lt x (r.take k) := by unfold bestL; rw [e1,List.foldl_append]; rfl
  rw [e4]
  simp only [argBest,e2,e3]
  by_cases c : lt (bestL lt x (r.take k)) r[k] = true
  ·rw [if_pos c,if_pos c]
   exact ⟨Nat.le_refl _,by simp [hk]⟩
  ·rw [if_neg c,if_neg c]
   exact ⟨by omega,h2⟩
section
variable {X : Cx}
theorem call_maxP {k : Nat} (hr : Room k X.A) (hc : X.calm = true) : zbG X (.builtin "max") (fun xs H Q => ∃ p ys x r,xs = [.ref p] /\ SqL X.K H p ys /\ Paired (fun (y : V) (q : Int × Int) => ∃ a,y = .ref a /\ SqT X.K H a [.int q.1,.int q.2]) ys (x :: r) /\ ∀ (i : Nat) (y : V),ys[i]? = some y -> (x :: r)[i]? = some (bestL P.ltP x r) -> Q y H) := by
 intro pins s σ H xs us Q I r h
 obtain ⟨p,ys,x,qs,rfl,hq,ps,q⟩ := h
 obtain ⟨u,rfl,ru⟩ : ∃ u,us = [u] /\ zaG (.ref p) u := by
  cases r with
  | cons a b => cases b; exact ⟨_,rfl,a⟩
 cases ru
 obtain ⟨its,rv,pl,hz⟩ := I.list hq
 have hlen : its.length = (x :: qs).length := by rw [<- rv.length]; exact Paired.length ps
 have hun : X.A.in1.units < cLine := by have := hr.units; show X.A.units + 1 < cLine; omega
 refine max_of (bt := fun i j => P.ltP ((x :: qs).getD j (0,0)) ((x :: qs).getD i (0,0))) (I.ok.hd hc) pl.isList (by rw [List.size_toArray,hlen]; simp) ?_ ?_
 ·intro i j u v s' Q' E' kp hi hj h'
  have pr : ∀ (i : Nat) (u : Value),its.toArray[i]? = some u -> ∃ a t t',u = .ref a /\ s'.heap.IsTuple a #[.int ((x :: qs).getD i (0,0)).1 t,.int ((x :: qs).getD i (0,0)).2 t'] := by
   intro i u hi
   rw [List.getElem?_toArray] at hi
   obtain ⟨hi1,hi2⟩ := List.getElem?_eq_some_iff.mp hi
   have hi3 : i < ys.length := by rw [rv.length]; exact hi1
   obtain ⟨u',hu',ru'⟩ := rv.get (x := ys[i]) (i := i) (by simp [hi3])
   rw [hi] at hu'; cases hu'
   obtain ⟨q',hq',a,ea,sa⟩ := paired_get ps (x := ys[i]) (i := i) (by simp [hi3])
   rw [ea] at ru'; cases ru'
   obtain ⟨its',rv',pt,_⟩ := I.tuple sa
   cases rv' with
   | cons r1 rr => cases rr with
    | cons r2 rr =>
     cases rr; obtain ⟨t,rfl⟩ := r1; obtain ⟨t',rfl⟩ := r2
     refine ⟨a,t,t',rfl,?_⟩
     rw [List.getD_eq_getElem?_getD,hq']
     obtain ⟨o,e,rest⟩ := pt
     exact ⟨o,kp _ _ e,rest⟩
  obtain ⟨a,t,t',rfl,h1⟩ := pr i u hi
  obtain ⟨b,t2,t3,rfl,h2⟩ := pr j v hj
  exact gt_pair hun h1 h2 h'
 ·intro v g tk hv kp
  have hb := argBest_fold (lt := P.ltP) (d := (0,0)) (x := x) (r := qs) qs.length (Nat.le_refl _)
  have esz : its.toArray.size - 1 = qs.length := by rw [List.size_toArray,hlen]; simp
  rw [esz,List.getElem?_toArray] at hv
  rw [List.take_length] at hb
  obtain ⟨hi1,_⟩ := List.getElem?_eq_some_iff.mp hv
  have hi3 : argBest (fun i j => P.ltP ((x :: qs).getD j (0,0)) ((x :: qs).getD i (0,0))) qs.length < ys.length := by rw [rv.length]; exact hi1
  obtain ⟨u',hu',ru'⟩ := rv.get (List.getElem?_eq_getElem hi3)
  rw [hv] at hu'; cases hu'
  exact ⟨_,H,I.kept kp,ru',q _ _ (List.getElem?_eq_getElem hi3) hb.2⟩
theorem call_maxI (hc : X.calm = true) : zbG X (.builtin "max") (fun xs H Q => ∃ p x r,xs = [.ref p] /\ SqL X.K H p ((x :: r).map V.int) /\ Q (.int (bestL (fun a b => decide (a < b)) x r)) H) := by
 intro pins s σ H xs us Q I r h
 obtain ⟨p,x,qs,rfl,hq,q⟩ := h
 obtain ⟨u,rfl,ru⟩ : ∃ u,us = [u] /\ zaG (.ref p) u := by
  cases r with
  | cons a b => cases b; exact ⟨_,rfl,a⟩
 cases ru
 obtain ⟨its,rv,pl,hz⟩ := I.list hq
 have hlen : its.length = (x :: qs).length := by rw [<- rv.length]; simp
 have pr : ∀ (i : Nat) (u : Value),its.toArray[i]? = some u -> ∃ t,u = Value.int ((x :: qs).getD i 0) t := by
  intro i u hi
  rw [List.getElem?_toArray] at hi
  obtain ⟨hi1,hi2⟩ := List.getElem?_eq_some_iff.mp hi
  have hi3 : i < (x :: qs).length := by rw [<- hlen]; exact hi1
  obtain ⟨u',hu',ru'⟩ := rv.get (x := V.int (x :: qs)[i]) (i := i) (by rw [List.getElem?_map,List.getElem?_eq_getElem hi3]; rfl)
  rw [hi] at hu'; cases hu'
  obtain ⟨t,rfl⟩ := ru'
  exact ⟨t,by rw [List.getD_eq_getElem?_getD,List.getElem?_eq_getElem hi3]; rfl⟩
 refine max_of (bt := fun i j => decide ((x :: qs).getD j 0 < (x :: qs).getD i 0)) (I.ok.hd hc) pl.isList (by rw [List.size_toArray,hlen]; simp) ?_ ?_
 ·intro i j u v s' Q' E' kp hi hj h'
  exact CmpOf.ints_gt (P := fun i v => its.toArray[i]? = some v) (fun i => (x :: qs).getD i 0) pr i j u v s' Q' E' hi hj h'
 ·intro v g tk hv kp
  have hb := argBest_fold (lt := fun a b : Int => decide (a < b)) (d := 0) (x := x) (r := qs) qs.length (Nat.le_refl _)
  have esz : its.toArray.size - 1 = qs.length := by rw [List.size_toArray,hlen]; simp
  rw [esz] at hv
  rw [List.take_length] at hb
  obtain ⟨t,rfl⟩ := pr _ v hv
  refine ⟨V.int _,H,I.kept kp,⟨t,rfl⟩,?_⟩
  rw [List.getD_eq_getElem?_getD,hb.2]
  exact q
end
end L2
namespace L3
open PySem PySem.Spec PyProof.Rows L2
section
variable {X : Cx} {e : Expr} {es : List Expr} {pos p : Pos} {t : TA3} {k : Nat}
def pT (q : Int × Int) : T := .tup [.int q.1,.int q.2]
def pairOf : T -> Option (Int × Int)
 | .tup [.int a,.int b] => some (a,b)
 | _ => none
theorem dens_pairs {K : KW} {H : Hp} : ∀ {vs : List V} {qs : List (Int × Int)},Dens K H vs (qs.map pT) -> Paired (fun (y : V) (q : Int × Int) => ∃ a,y = .ref a /\ SqT K.k H a [.int q.1,.int q.2]) vs qs
 | _,[],.nil => .nil
 | _,q :: r,.cons d ds => by
  refine .cons ?_ (dens_pairs ds)
  cases d with
  | tup sq dd =>
   cases dd with
   | cons d1 dd => cases dd with
    | cons d2 dd => cases dd; cases d1; cases d2; exact ⟨_,rfl,sq⟩
def mxL3 : List T -> Gp -> VK3 -> Prop := fun ts G Q => match ts with
 | [.ref q] => (match G q with
  | some (.lst us) => (∃ x r,us = (x :: r).map pT /\ Q (pT (bestL P.ltP x r)) G) ∨ ∃ x r,us = (x :: r).map T.int /\ Q (.int (bestL (fun a b => decide (a < b)) x r)) G
  | _ => False)
 | _ => False
theorem qmaxL (hr : Room k X.A) (hm : X.mg "max" = none) (ha : QA X [e] t) (hg : Gl X "max" := by rfl) (he : starEach [e] X.env = [(false,eval e X.env)] := by rfl) (hpl : (backTo pos (starEach [] X.env)).any (·.1) = false := by rfl) (hc : X.calm = true := by rfl) :
  QE X (.Call (.Name "max" p) [e] [] pos) (wCB mxL3 t) := qcallB (zbG.or (call_maxP hr hc) (call_maxI hc)) (fun H G xs ts Q Q3 d r h im => by
 unfold mxL3 at h
 split at h
 ·cases d with
  | cons d1 d2 =>
   cases d2
   cases d1
   split at h
   ·rename_i us eg
    obtain ⟨xs,e1,ds⟩ := r _ _ eg
    rcases h with ⟨x,rr,eu,h⟩ | ⟨x,rr,eu,h⟩
    ·subst eu
     refine .inl ⟨_,xs,x,rr,rfl,SqL.of e1,dens_pairs ds,fun i y hy hb => ?_⟩
     obtain ⟨t',et,dt⟩ := ds.getV hy
     rw [List.getElem?_map,hb] at et
     cases et
     exact im _ G _ H h (Kp.refl _) dt r
    ·subst eu
     have := dens_ints ds
     subst this
     exact .inr ⟨_,x,rr,rfl,SqL.of e1,im _ G _ H h (Kp.refl _) (.int _) r⟩
   ·exact h.elim
 ·exact h.elim) hm boot_max ha hg (by decide) (by decide) he hpl
end
end L3
set_option Elab.async false
set_option maxRecDepth 100000
set_option maxHeartbeats 4000000
set_option linter.all false
namespace L2
open PySem.W PyProof.Rows
def TRun (n : Nat) (lt : Nat -> Nat -> Bool) {α : Type} (R : α -> Prop) : KasT α -> Prop
 | .ret a => R a
 | .ask i j k => i < n /\ j < n /\ TRun n lt R (k (lt i j))
section
variable {n : Nat} {lt : Nat -> Nat -> Bool}
theorem TRun.mono {α : Type} {R R' : α -> Prop} (h : ∀ a,R a -> R' a) : ∀ {t : KasT α},TRun n lt R t -> TRun n lt R' t
 | .ret a,r => h a r
 | .ask i j k,r => ⟨r.1,r.2.1,TRun.mono h r.2.2⟩
theorem TRun.bind {α β : Type} {R : β -> Prop} {f : α -> KasT β} : ∀ {t : KasT α},TRun n lt (fun a => TRun n lt R (f a)) t -> TRun n lt R (t.bind f)
 | .ret a,r => r
 | .ask i j k,r => ⟨r.1,r.2.1,TRun.bind r.2.2⟩
structure Ord (n : Nat) (lt : Nat -> Nat -> Bool) : Prop where
 asym : ∀ i j,lt i j = true -> lt j i = false
 trans : ∀ i j k,lt i j = true -> lt j k = true -> lt i k = true
 tot : ∀ i j,i < n -> j < n -> i ≠ j -> lt i j = false -> lt j i = true
abbrev zcd (n : Nat) (p : Array Nat) : Prop := p.Perm (List.toArray (List.range n))
theorem zcd.size {p : Array Nat} (h : zcd n p) : p.size = n := by have := h.size_eq; simpa using this
theorem zcd.below {p : Array Nat} (h : zcd n p) (h0 : 0 < n) (i : Nat) : p.getD i 0 < n := by
 by_cases hi : i < p.size
 ·have e : p.getD i 0 = p[i] := by simp [Array.getD,hi]
  rw [e]
  have : p[i] ∈ (List.toArray (List.range n)).toList := (Array.perm_iff_toList_perm.mp h).mem_iff.mp (by simp)
  simpa using this
 ·have e : p.getD i 0 = 0 := by simp [Array.getD,hi]
  rw [e]; exact h0
theorem zcd.ne {p : Array Nat} (h : zcd n p) {i j : Nat} (hi : i < n) (hj : j < n) (d : i ≠ j) : p.getD i 0 ≠ p.getD j 0 := by
 have hs := h.size
 have hi' : i < p.size := by omega
 have hj' : j < p.size := by omega
 have e : p.getD i 0 = p[i] := by simp [Array.getD,hi']
 have e2 : p.getD j 0 = p[j] := by simp [Array.getD,hj']
 rw [e,e2]
 have nd : p.toList.Nodup := (Array.perm_iff_toList_perm.mp h).nodup_iff.mpr (by simpa using List.nodup_range)
 intro z
 have := (List.getElem_inj nd (i := i) (j := j) (h₀ := by simpa using hi') (h₁ := by simpa using hj')).mp (by simpa using z)
 exact d this
def UpTo (lt : Nat -> Nat -> Bool) (p : Array Nat) (m : Nat) : Prop := ∀ i j,i < j -> j < m -> lt (p.getD i 0) (p.getD j 0) = true
def DownTo (lt : Nat -> Nat -> Bool) (p : Array Nat) (m : Nat) : Prop := ∀ i j,i < j -> j < m -> lt (p.getD j 0) (p.getD i 0) = true
theorem UpTo.next {p : Array Nat} {m : Nat} (O : Ord n lt) (h : UpTo lt p m) (h1 : 1 <= m) (s : lt (p.getD (m - 1) 0) (p.getD m 0) = true) : UpTo lt p (m + 1) := by
 intro i j hij hj
 by_cases e : j < m
 ·exact h i j hij e
 ·have : j = m := by omega
  subst this
  by_cases e2 : i = j - 1
  ·subst e2; exact s
  ·exact O.trans _ _ _ (h i (j - 1) (by omega) (by omega)) s
theorem DownTo.next {p : Array Nat} {m : Nat} (O : Ord n lt) (h : DownTo lt p m) (h1 : 1 <= m) (s : lt (p.getD m 0) (p.getD (m - 1) 0) = true) : DownTo lt p (m + 1) := by
 intro i j hij hj
 by_cases e : j < m
 ·exact h i j hij e
 ·have : j = m := by omega
  subst this
  by_cases e2 : i = j - 1
  ·subst e2; exact s
  ·exact O.trans _ _ _ s (h i (j - 1) (by omega) (by omega))
theorem t_asc {p : Array Nat} (O : Ord n lt) (hp : zcd n p) : ∀ (f m : Nat),1 <= m -> m + f <= n -> UpTo lt p m -> TRun n lt (fun m' => m <= m' /\ m' <= m + f /\ UpTo lt p m' /\ (m' < m + f -> lt (p.getD m' 0) (p.getD (m' - 1) 0) = true)) (kas_asc p f m)
 | 0,m,h1,hf,h => ⟨Nat.le_refl _,Nat.le_refl _,h,fun z => absurd z (by omega)⟩
 | f + 1,m,h1,hf,h => by
  refine ⟨hp.below (by omega) _,hp.below (by omega) _,?_⟩
  cases c : lt (p.getD m 0) (p.getD (m - 1) 0) with
  | true => dsimp only; rw [if_pos rfl]; exact ⟨Nat.le_refl _,by omega,h,fun _ => c⟩
  | false =>
   dsimp only; rw [if_neg (by simp)]
   have s := O.tot _ _ (hp.below (by omega) _) (hp.below (by omega) _) (hp.ne (i := m) (j := m - 1) (by omega) (by omega) (by omega)) c
   refine (t_asc O hp f (m + 1) (by omega) (by omega) (h.next O h1 s)).mono fun m' ⟨a,b,c,d⟩ => ⟨by omega,by omega,c,fun z => d (by omega)⟩
theorem t_desc {p : Array Nat} (O : Ord n lt) (hp : zcd n p) : ∀ (f m : Nat),1 <= m -> m + f <= n -> DownTo lt p m -> TRun n lt (fun r => r.1 = p /\ m <= r.2.1 /\ r.2.1 <= m + f /\ r.2.2 = 0 /\ DownTo lt p r.2.1) (kas_desc f p m 0)
 | 0,m,h1,hf,h => ⟨rfl,Nat.le_refl _,Nat.le_refl _,rfl,h⟩
 | f + 1,m,h1,hf,h => by
  refine ⟨hp.below (by omega) _,hp.below (by omega) _,?_⟩
  cases c : lt (p.getD m 0) (p.getD (m - 1) 0) with
  | true =>
   dsimp only; rw [if_pos rfl,if_neg (by omega)]
   exact (t_desc O hp f (m + 1) (by omega) (by omega) (h.next O h1 c)).mono fun r ⟨a,b,c,d,e⟩ => ⟨a,by omega,by omega,d,e⟩
  | false =>
   dsimp only; rw [if_neg (by simp)]
   have s := O.tot _ _ (hp.below (by omega) _) (hp.below (by omega) _) (hp.ne (i := m) (j := m - 1) (by omega) (by omega) (by omega)) c
   refine ⟨hp.below (by omega) _,hp.below (by omega) _,?_⟩
   rw [s]; dsimp only; rw [if_pos rfl]
   exact ⟨rfl,Nat.le_refl _,by show m <= _; omega,rfl,h⟩
theorem rev_get {p : Array Nat} {m k : Nat} (hm : m <= p.size) : (kas_rev p 0 m).getD k 0 = if k < m then p.getD (m - 1 - k) 0 else p.getD k 0 := by
 have e := getElem?_mirror_all (xs := p) (i := 0) hm k
 unfold kas_rev
 have g : ∀ (a : Array Nat) (k : Nat),a.getD k 0 = (a[k]?).getD 0 := fun a k => by rw [Array.getD_eq_getD_getElem?]
 rw [g,e]
 by_cases c : k < m
 ·rw [if_pos ⟨Nat.zero_le _,c⟩,if_pos c,g]; congr 2; omega
 ·rw [if_neg (fun z => c z.2),if_neg c,g]
theorem t_tail3 {p : Array Nat} (O : Ord n lt) (hp : zcd n p) {m : Nat} (h1 : 1 <= m) (hm : m <= n) (h : DownTo lt p m) : TRun n lt (fun r => 1 <= r.1 /\ r.1 <= n /\ zcd n r.2 /\ UpTo lt r.2 r.1) (kas_tail3 m n p) := by
 have hp' : zcd n (kas_rev p 0 m) := (mirror_perm _ _ _ _).trans hp
 have hs := hp.size
 unfold kas_tail3
 refine TRun.bind ((t_asc O hp' (n - m) m h1 (by omega) fun i j hij hj => ?_).mono fun m' ⟨a,b,c,_⟩ => ?_)
 ·rw [rev_get (by omega),rev_get (by omega),if_pos (by omega),if_pos hj]
  exact h _ _ (by omega) (by omega)
 ·exact ⟨by omega,by omega,hp',c⟩
theorem t_count {p : Array Nat} (O : Ord n lt) (hp : zcd n p) (h2 : 2 <= n) : TRun n lt (fun r => 1 <= r.1 /\ r.1 <= n /\ zcd n r.2 /\ UpTo lt r.2 r.1) (kas_count n p) := by
 unfold kas_count
 refine TRun.bind ((t_asc O hp (n - 1) 1 (Nat.le_refl _) (by omega) fun i j hij hj => absurd hj (by omega)).mono fun m ⟨a,b,c,d⟩ => ?_)
 by_cases e1 : (m == n) = true
 ·rw [if_pos e1]; exact ⟨a,by omega,hp,c⟩
 ·rw [if_neg e1]
  have hlt : m < n := by
   have : m ≠ n := fun q => e1 (by rw [q]; exact beq_self_eq_true _)
   omega
  by_cases e2 : m > 1
  ·rw [if_pos e2]
   refine ⟨hp.below (by omega) _,hp.below (by omega) _,?_⟩
   rw [c 0 (m - 1) (by omega) (by omega)]; dsimp only; rw [if_pos rfl]
   exact ⟨a,by omega,hp,c⟩
  ·rw [if_neg e2]
   have : m = 1 := by omega
   subst this
   have s := d (by omega)
   unfold kas_descPart
   refine TRun.bind ((t_desc O hp (n - 2) 2 (by omega) (by omega) fun i j hij hj => ?_).mono fun r ⟨a,b,c,q,e⟩ => ?_)
   ·have e1 : i = 0 := by omega
    have e2 : j = 1 := by omega
    subst e1; subst e2; exact s
   ·rw [if_neg (by omega),a]
    exact t_tail3 O hp (by omega) (by omega) e
theorem t_place {p : Array Nat} (O : Ord n lt) (hp : zcd n p) {k : Nat} (hk : k < n) (hs : UpTo lt p k) : ∀ (f l r : Nat),l <= r -> r <= k -> r - l <= f -> (∀ i,i < l -> lt (p.getD i 0) (p.getD k 0) = true) -> (∀ i,r <= i -> i < k -> lt (p.getD k 0) (p.getD i 0) = true) ->
  TRun n lt (fun l => l <= k /\ (∀ i,i < l -> lt (p.getD i 0) (p.getD k 0) = true) /\ ∀ i,l <= i -> i < k -> lt (p.getD k 0) (p.getD i 0) = true) (kas_place p k f l r)
 | 0,l,r,h1,h2,h3,ha,hb => ⟨by omega,ha,fun i hi hik => hb i (by omega) hik⟩
 | f + 1,l,r,h1,h2,h3,ha,hb => by
  unfold kas_place
  by_cases e : l >= r
  ·rw [if_pos e]; exact ⟨by omega,ha,fun i hi hik => hb i (by omega) hik⟩
  ·rw [if_neg e]
   refine ⟨hp.below (by omega) _,hp.below (by omega) _,?_⟩
   cases c : lt (p.getD k 0) (p.getD ((l + r) / 2) 0) with
   | true =>
    dsimp only; rw [if_pos rfl]
    refine t_place O hp hk hs f l _ (by omega) (by omega) (by omega) ha fun i hi hik => ?_
    by_cases e : i = (l + r) / 2
    ·rw [e]; exact c
    ·exact O.trans _ _ _ c (hs _ i (by omega) hik)
   | false =>
    dsimp only; rw [if_neg (by simp)]
    have s := O.tot _ _ (hp.below (by omega) _) (hp.below (by omega) _) (hp.ne (i := k) (j := (l + r) / 2) hk (by omega) (by omega)) c
    refine t_place O hp hk hs f _ r (by omega) h2 (by omega) (fun i hi => ?_) hb
    by_cases e : i = (l + r) / 2
    ·rw [e]; exact s
    ·exact O.trans _ _ _ (hs i _ (by omega) (by omega)) s
theorem bub_get {p : Array Nat} {k l j : Nat} (hk : k < p.size) (hl : l <= k) : (bubble p k (k - l)).getD j 0 = if j = l then p.getD k 0 else if l < j /\ j <= k then p.getD (j - 1) 0 else p.getD j 0 := by
 have e := getElem?_bubble (xs := p) hk (k - l) (by omega) j
 have g : ∀ (a : Array Nat) (k : Nat),a.getD k 0 = (a[k]?).getD 0 := fun a k => by rw [Array.getD_eq_getD_getElem?]
 have e0 : k - (k - l) = l := by omega
 rw [e0] at e
 rw [g,e]
 by_cases c1 : j = l
 ·rw [if_pos c1,if_pos c1,g]
 ·rw [if_neg c1,if_neg c1]
  by_cases c2 : l < j /\ j <= k
  ·rw [if_pos c2,if_pos c2,g]
  ·rw [if_neg c2,if_neg c2,g]
theorem t_bin (O : Ord n lt) : ∀ (f k : Nat) (p : Array Nat),zcd n p -> 1 <= k -> k + f = n -> UpTo lt p k -> TRun n lt (fun p' => zcd n p' /\ UpTo lt p' n) (kas_bin f p k)
 | 0,k,p,hp,h1,hf,h => ⟨hp,by rw [<- hf]; exact h⟩
 | f + 1,k,p,hp,h1,hf,h => by
  have hs := hp.size
  refine TRun.bind ((t_place O hp (by omega) h k 0 k (by omega) (Nat.le_refl _) (by omega) (fun i hi => absurd hi (by omega)) fun i hi hik => absurd hik (by omega)).mono fun l ⟨a,b,c⟩ => ?_)
  refine t_bin O f (k + 1) _ ((bubble_perm _ _ _).trans hp) (by omega) (by omega) fun i j hij hj => ?_
  have hk : k < p.size := by omega
  rw [bub_get hk a,bub_get hk a]
  by_cases i1 : i = l
  ·rw [if_pos i1,if_neg (by omega),if_pos (by omega)]
   exact c _ (by omega) (by omega)
  ·rw [if_neg i1]
   by_cases j1 : j = l
   ·rw [if_pos j1,if_neg (by omega)]
    exact b i (by omega)
   ·rw [if_neg j1]
    by_cases i2 : l < i /\ i <= k
    ·rw [if_pos i2,if_pos (by omega)]; exact h _ _ (by omega) (by omega)
    ·rw [if_neg i2]
     by_cases j2 : l < j /\ j <= k
     ·rw [if_pos j2]
      by_cases q : i = j - 1
      ·omega
      ·exact h _ _ (by omega) (by omega)
     ·rw [if_neg j2]; exact h _ _ hij (by omega)
theorem t_sort (O : Ord n lt) (h2 : 2 <= n) : TRun n lt (fun p => zcd n p /\ UpTo lt p n) (kas_sort n) := by
 unfold kas_sort
 refine TRun.bind ((t_count O (Array.Perm.refl _) h2).mono fun r ⟨a,b,c,d⟩ => ?_)
 by_cases e : r.1 < n
 ·rw [if_pos e]
  have : max r.1 1 = r.1 := by omega
  rw [this]
  exact t_bin O _ _ _ c a (by omega) d
 ·rw [if_neg e]
  have : r.1 = n := by omega
  rw [this] at d
  exact ⟨c,d⟩
end
end L2
set_option Elab.async false
set_option linter.all false
set_option maxRecDepth 100000
set_option maxHeartbeats 4000000
namespace L2
open PySem PySem.Spec PyProof.Rows
section
variable {prog : Program} {w : World} {A : Around} {E : Value -> Shared -> Prop} {s : Shared}
theorem kas_pure {α : Type} {n : Nat} {lt : Nat -> Nat -> Bool} {cmp : Nat -> Nat -> (Bool -> Shared -> Prop) -> Shared -> Prop} {R : α -> Prop} {G : α -> Shared -> Prop} (hc : ∀ i j (C : Bool -> Shared -> Prop),i < n -> j < n -> C (lt i j) s -> cmp i j C s) (hG : ∀ a,R a -> G a s) :
  ∀ {t : PySem.W.KasT α},TRun n lt R t -> t.kasWp cmp G s
 | .ret a,r => hG a r
 | .ask i j k,r => hc i j _ r.1 r.2.1 (kas_pure hc hG r.2.2)
theorem lt_pairT {x y : Addr} {a b c d : Int} {t u t' u' : Tok} {Q : Bool -> Shared -> Prop} (hx : s.heap.IsTuple x #[.int a t,.int b u]) (hy : s.heap.IsTuple y #[.int c t',.int d u'])
  (q : Q (P.ltP (a,b) (c,d)) s) : wpAny (model prog w) A (keyLt' (tuples' true) (.ref x) (.ref y)) Q E s := by
 obtain ⟨ox,x1,x2,nx,x3⟩ := hx
 obtain ⟨oy,y1,y2,ny,y3⟩ := hy
 refine PySem.W.kat_lt x1 x3 y1 y3 ?_
 show PySem.W.KatLex prog w A true _ Q [(.int a t,.int c t'),(.int b u,.int d u')] 0 s
 refine PySem.W.kat_cons (wpAny_eqBool_int ?_)
 by_cases e : a = c
 ·subst e
  have e' : (a == a) = true := by simp
  rw [e']
  refine PySem.W.kat_yes (PySem.W.kat_cons (wpAny_eqBool_int ?_))
  by_cases e : b = d
  ·subst e
   have e' : (b == b) = true := by simp
   rw [e']
   refine PySem.W.kat_yes (PySem.W.kat_nil ?_)
   have z : P.ltP (a,b) (a,b) = false := by simp [P.ltP]
   rw [z] at q
   simpa using q
  ·have e' : (b == d) = false := by simpa using e
   rw [e']
   refine PySem.W.kat_no ?_
   have z : P.ltP (a,b) (a,d) = decide (b < d) := by simp [P.ltP]
   rw [z] at q
   refine PySem.W.kat_one _ _ ?_
   exact richCompare_gives (op := .Lt) (typeIs_int s _ u) (typeIs_int s _ u') F.slot_int_lt F.entry_int_lt (F.args_int_lt_2 _ _) (gives_int_lt _ _ u u') (fun x => nomatch x) q
 ·have e' : (a == c) = false := by simpa using e
  rw [e']
  refine PySem.W.kat_no ?_
  have z : P.ltP (a,b) (c,d) = decide (a < c) := by simp [P.ltP]; intro h; omega
  rw [z] at q
  exact oneLt_int q
def zbk (h : Heap) (vs : List Value) (qs : List (Int × Int)) : Prop := Paired (fun (v : Value) (q : Int × Int) => ∃ a t u,v = .ref a /\ h.IsTuple a #[.int q.1 t,.int q.2 u]) vs qs
theorem zbk.keeps {h h' : Heap} {vs : List Value} {qs : List (Int × Int)} (k : ∀ b o,h.get? b = some o -> o.cls = .type "tuple" -> h'.get? b = some o) (p : zbk h vs qs) : zbk h' vs qs :=
 Paired.mapP p fun _ _ ⟨a,t,u,e,o,e1,e2,r⟩ => ⟨a,t,u,e,o,k _ _ e1 e2,e2,r⟩
theorem zbk.get {h : Heap} {vs : List Value} {qs : List (Int × Int)} (p : zbk h vs qs) {i : Nat} (hi : i < vs.length) : ∃ a t u,vs.getD i .none = .ref a /\ h.IsTuple a #[.int (qs.getD i (0,0)).1 t,.int (qs.getD i (0,0)).2 u] := by
 obtain ⟨q,hq,a,t,u,e,r⟩ := paired_get p (List.getElem?_eq_getElem hi)
 refine ⟨a,t,u,?_,?_⟩
 ·rw [List.getD_eq_getElem?_getD,List.getElem?_eq_getElem hi]; exact e
 ·rw [List.getD_eq_getElem?_getD,hq]; exact r
theorem zbk.tups {h : Heap} : ∀ {vs : List Value} {qs : List (Int × Int)},zbk h vs qs -> ∃ fs,PySem.W.KatTups h vs fs /\ fs.length = vs.length /\ ∀ v ∈ fs,∃ i t,v = Value.int i t
 | _,_,.nil => ⟨[],PySem.W.KatTups.nil,rfl,fun v hv => by cases hv⟩
 | _,_,.cons ⟨a,t,u,e,o,e1,e2,n,e3⟩ r => by
  obtain ⟨fs,k,l,m⟩ := zbk.tups r
  subst e
  refine ⟨_ :: fs,PySem.W.KatTups.cons e1 e2 e3 rfl k,by simp [l],fun v hv => ?_⟩
  rcases List.mem_cons.mp hv with h | h
  ·exact ⟨_,t,h⟩
  ·exact m v h
def zbf (qs : List (Int × Int)) : List (Int × Int) := qs.mergeSort fun a b => !P.ltP b a
theorem ltP_asym {a b : Int × Int} (h : P.ltP a b = true) : P.ltP b a = false := by
 unfold P.ltP at h ⊢; simp only [decide_eq_true_eq,decide_eq_false_iff_not] at h ⊢; omega
theorem ltP_trans {a b c : Int × Int} (h : P.ltP a b = true) (h' : P.ltP b c = true) : P.ltP a c = true := by
 unfold P.ltP at h h' ⊢; simp only [decide_eq_true_eq] at h h' ⊢; omega
theorem ltP_tot {a b : Int × Int} (ne : a ≠ b) (h : P.ltP a b = false) : P.ltP b a = true := by
 unfold P.ltP at h ⊢; simp only [decide_eq_true_eq,decide_eq_false_iff_not] at h ⊢
 have : a.1 = b.1 -> a.2 ≠ b.2 := fun e1 e2 => ne (Prod.ext e1 e2)
 omega
theorem zbI (qs : List (Int × Int)) : (zbf qs).Perm qs := List.mergeSort_perm _ _
theorem sortP_le (qs : List (Int × Int)) : (zbf qs).Pairwise fun a b => P.ltP b a = false := by
 have := List.pairwise_mergeSort (le := fun a b : Int × Int => !P.ltP b a) (fun a b c => by
  simp only [Bool.not_eq_true']
  intro h1 h2
  unfold P.ltP at h1 h2 ⊢; simp only [decide_eq_false_iff_not] at h1 h2 ⊢; omega) (fun a b => by
  simp only [Bool.or_eq_true,Bool.not_eq_true']
  unfold P.ltP; simp only [decide_eq_false_iff_not]; omega) qs
 exact this.imp fun h => by simpa using h
theorem sortP_eq {ms qs : List (Int × Int)} (p : ms.Perm qs) (s : ms.Pairwise fun a b => P.ltP a b = true) : ms = zbf qs :=
 (p.trans (zbI qs).symm).eq_of_pairwise (le := fun a b => P.ltP b a = false) (fun a b _ _ h1 h2 => by
  unfold P.ltP at h1 h2; simp only [decide_eq_false_iff_not] at h1 h2
  exact Prod.ext (by omega) (by omega)) (s.imp fun h => ltP_asym h) (sortP_le qs)
theorem sortP_lt {qs : List (Int × Int)} (nd : qs.Nodup) : (zbf qs).Pairwise fun a b => P.ltP a b = true := by
 have h1 := sortP_le qs
 have h2 : (zbf qs).Nodup := (zbI qs).nodup_iff.mpr nd
 exact (h1.and h2).imp fun ⟨a,b⟩ => ltP_tot (Ne.symm b) a
theorem mem_sortP {qs : List (Int × Int)} {q : Int × Int} : q ∈ zbf qs ↔ q ∈ qs := (zbI qs).mem_iff
theorem zb0 {α : Type} (l : List α) (d : α) : (List.range l.length).map (fun i => l.getD i d) = l := by
 refine List.ext_getElem? fun i => ?_
 by_cases h : i < l.length
 ·simp [h]
 ·simp [h]
theorem ord_pairs {qs : List (Int × Int)} (nd : qs.Nodup) : Ord qs.length (fun i j => P.ltP (qs.getD i (0,0)) (qs.getD j (0,0))) := by
 refine ⟨fun i j h => ltP_asym h,fun i j k h h' => ltP_trans h h',fun i j hi hj ne h => ltP_tot (fun z => ne ?_) h⟩
 have e1 : qs.getD i (0,0) = qs[i] := by simp [hi]
 have e2 : qs.getD j (0,0) = qs[j] := by simp [hj]
 rw [e1,e2] at z
 exact (List.getElem_inj nd).mp z
theorem sorted_ix {qs : List (Int × Int)} {p : Array Nat} (hp : zcd qs.length p) (hs : UpTo (fun i j => P.ltP (qs.getD i (0,0)) (qs.getD j (0,0))) p qs.length) : p.toList.map (fun i => qs.getD i (0,0)) = zbf qs := by
 have h1 : p.toList.Perm (List.range qs.length) := by have := Array.perm_iff_toList_perm.mp hp; simpa using this
 refine sortP_eq ?_ ?_
 ·have := h1.map fun i => qs.getD i (0,0)
  rwa [zb0] at this
 ·rw [List.pairwise_map,List.pairwise_iff_getElem]
  intro i j hi hj hij
  have hz := hp.size
  have hj' : j < p.size := by simpa using hj
  have hi' : i < p.size := by simpa using hi
  have := hs i j hij (by omega)
  simpa [Array.getD,hi',hj'] using this
theorem list_sort_P {a : Addr} {vs : List Value} {qs : List (Int × Int)} {n : Nat} {PP : Fin -> Shared -> Prop} (ho : s.heap.get? a = some (seqObj "list" vs.toArray n)) (hq : zbk s.heap vs qs) (nd : qs.Nodup) (h64 : vs.length < 64)
  (h : ∀ (is : List Nat),is.Perm (List.range vs.length) -> is.map (fun i => qs.getD i (0,0)) = zbf qs -> PP (.done (.ret .none)) { s with heap := sortedHeap s.heap a vs (is.map fun i => vs.getD i Value.none).toArray }) :
  wpAny (model prog w) A (Builtin.«list.sort» ⟨[.ref a],[]⟩) PP E s := by
 have hlen : vs.length = qs.length := Paired.length hq
 rw [list_sort_plain]
 have ha : a < s.heap.objs.size := Heap.lt_size ho
 refine wpAny_bind (listItems_at ho rfl ?_)
 refine wpAny_bind (listUpdate_at ho rfl ?_)
 obtain ⟨e1,ho1⟩ : ∃ e1,(s.heap.update a (Obj.mapSeq fun _ => #[])).get? a = some (seqObj "list" #[] e1) := ⟨_,get?_update_seq ho (fun _ => #[])⟩
 refine wpAny_bind (seqEpoch_at ho1 rfl ?_)
 refine wpAny_bind (wpAny_newTuple ?_)
 refine wpAny_bind (wpAny_newList ?_)
 refine wpAny_holding ?_
 have ho6 : (((s.heap.update a (Obj.mapSeq fun _ => #[])).push (seqObj "tuple" vs.toArray 0)).push (seqObj "list" #[] 0)).get? a = some (seqObj "list" #[] e1) := by
  rw [Heap.get?_push_ne _ _ _ (by rw [size_push',Heap.size_update]; exact Nat.ne_of_lt (Nat.lt_succ_of_lt ha)),Heap.get?_push_ne _ _ _ (by rw [Heap.size_update]; exact Nat.ne_of_lt ha)]
  exact ho1
 have hq6 : zbk (((s.heap.update a (Obj.mapSeq fun _ => #[])).push (seqObj "tuple" vs.toArray 0)).push (seqObj "list" #[] 0)) vs qs := hq.keeps fun b o e1 e2 => by
  have hb : b ≠ a := fun z => by rw [z,ho] at e1; cases e1; simp at e2
  exact Heap.get?_push_of_some _ (Heap.get?_push_of_some _ ((Heap.get?_update_other _ _ (Ne.symm hb)).trans e1))
 show wpAny (model prog w) A _ PP E { s with heap := ((s.heap.update a (Obj.mapSeq fun _ => #[])).push (seqObj "tuple" vs.toArray 0)).push (seqObj "list" #[] 0) }
 dsimp only
 have hsz : vs.toArray.size = vs.length := by simp
 by_cases h2 : vs.toArray.size < 2
 ·rw [if_pos h2,if_pos h2]
  refine wpAny_bind (wpAny_pure ?_)
  rw [StateT.run_pure]
  refine wpAny_bind (wpAny_pure ?_)
  dsimp only
  refine wpAny_bind (seqEpoch_at ho6 rfl ?_)
  refine wpAny_bind (listUpdate_at ho6 rfl ?_ (hsz2 := by rw [Array.size_map]; show (vs.toArray.zip vs.toArray).size <= _; rw [Array.size_zip,sizeLine_eq]; omega))
  simp only [bne_self_eq_false,Bool.false_eq_true,if_false]
  have eo : (arrOf (SortSt.mk' general' (vs.toArray.zip vs.toArray) #[] 7 none)).map (·.2) = ((List.range vs.length).map fun i => vs.getD i Value.none).toArray := by
   rw [zb0]
   show (vs.toArray.zip vs.toArray).map (·.2) = vs.toArray
   have key : ∀ l : List Value,(l.zip l).map (fun x => x.2) = l := fun l => by
    induction l with
    | nil => rfl
    | cons x r ih => simp [ih]
   simp [key]
  rw [eo]
  refine wpAny_pure (h (List.range vs.length) (List.Perm.refl _) ?_)
  rw [hlen,zb0]
  have hl : qs.length < 2 := by omega
  cases qs with
  | nil => simp [zbf]
  | cons q r =>
   cases r with
   | nil => simp [zbf]
   | cons _ _ => simp at hl; omega
 ·rw [if_neg h2,if_neg h2]
  obtain ⟨fs,kt,kl,ki⟩ := hq6.tups
  have ask : wpAny (model prog w) A (keyKind' vs.toArray) (fun κ s' => κ = tuples' true /\ s' = { s with heap := ((s.heap.update a (Obj.mapSeq fun _ => #[])).push (seqObj "tuple" vs.toArray 0)).push (seqObj "list" #[] 0) }) E { s with heap := ((s.heap.update a (Obj.mapSeq fun _ => #[])).push (seqObj "tuple" vs.toArray 0)).push (seqObj "list" #[] 0) } :=
   PySem.W.kat_kind (T := .type "int") kt (by omega) (fun v hv => by obtain ⟨i,t,rfl⟩ := ki v hv; exact PySem.W.Looks.of_pure rfl) (by rfl) ⟨by rfl,rfl⟩
  refine wpAny_bind (wpAny_mono ask (fun κ s0 hk => ?_) fun _ _ x => x)
  obtain ⟨rfl,rfl⟩ := hk
  refine wpAny_bind (wpAny_mono (PySem.W.kat_run (κ := tuples' true) (ks := vs) (vs := vs) (Q := fun st' s' => s' = { s with heap := ((s.heap.update a (Obj.mapSeq fun _ => #[])).push (seqObj "tuple" vs.toArray 0)).push (seqObj "list" #[] 0) } /\ ∃ p : Array Nat,zcd qs.length p /\ UpTo (fun i j => P.ltP (qs.getD i (0,0)) (qs.getD j (0,0))) p qs.length /\ arrOf st' = p.map (PySem.W.kas_item (vs.toArray.zip vs.toArray)) /\ failedOf st' = none)
   (G := fun p s' => s' = { s with heap := ((s.heap.update a (Obj.mapSeq fun _ => #[])).push (seqObj "tuple" vs.toArray 0)).push (seqObj "list" #[] 0) } /\ zcd qs.length p /\ UpTo (fun i j => P.ltP (qs.getD i (0,0)) (qs.getD j (0,0))) p qs.length)
   rfl (by omega) h64 (fun p' st' s' a1 a2 a3 a4 => ⟨a4.1,p',a4.2.1,a4.2.2,a2,a3⟩) ?_) ?_ fun _ _ e => e)
  ·rw [hlen]
   refine kas_pure (lt := fun i j => P.ltP (qs.getD i (0,0)) (qs.getD j (0,0))) (fun i j C hi hj hC => ?_) (fun p hp => ⟨rfl,hp⟩) (t_sort (ord_pairs nd) (by omega))
   obtain ⟨x,t,u,ex,tx⟩ := hq6.get (i := i) (by omega)
   obtain ⟨y,t',u',ey,ty⟩ := hq6.get (i := j) (by omega)
   unfold PySem.W.kas_ask
   rw [ex,ey]
   exact lt_pairT tx ty hC
  ·rintro ⟨⟨⟩,st'⟩ s' ⟨rfl,p,hp,hs,har,hf⟩
   dsimp only
   have hout := PySem.W.kat_snds (vs := vs) rfl har
   rw [hout]
   have hp' : p.toList.Perm (List.range vs.length) := by have := Array.perm_iff_toList_perm.mp hp; rw [hlen]; simpa using this
   refine wpAny_bind (seqEpoch_at ho6 rfl ?_)
   refine wpAny_bind (listUpdate_at ho6 rfl ?_ (hsz2 := by rw [List.size_toArray,List.length_map,hp'.length_eq,List.length_range,sizeLine_eq]; omega))
   rw [hf]
   simp only [bne_self_eq_false,Bool.false_eq_true,if_false]
   exact wpAny_pure (h p.toList hp' (sorted_ix hp hs))
theorem sortedP_of {a : Value} {vs : List Value} {qs : List (Int × Int)} {Q : Value -> Shared -> Prop} (hI : zbk s.heap vs qs) (nd : qs.Nodup) (h64 : vs.length < 64)
  (hc : ∀ (A' : Around) (E' : Value -> Shared -> Prop) (Q' : List Value -> Shared -> Prop),A'.handled = A.handled -> (∀ h' tk,(∀ b o,s.heap.get? b = some o -> h'.get? b = some o) -> Q' vs { s with heap := h',toks := tk }) -> wpAny (model prog w) A' (collect a) Q' E' s)
  (h : ∀ (h1 h' : Heap) (tk : Nat) (p : Addr) (e : Nat) (is : List Nat),(∀ b o,s.heap.get? b = some o -> h1.get? b = some o) -> (∀ b o,h1.get? b = some o -> h'.get? b = some o) -> h1.objs.size <= p -> is.Perm (List.range vs.length) -> is.map (fun i => qs.getD i (0,0)) = zbf qs ->
   h'.get? p = some (seqObj "list" (is.map fun i => vs.getD i Value.none).toArray e) -> Q (.ref p) { s with heap := h',toks := tk }) :
  wpAny (model prog w) A (call (.builtin "sorted") [a]) Q E s := by
 refine Calls.call_function_entry kind_sorted plain_sorted entry_sorted (args_sorted1 _) ?_
 unfold Builtin.«sorted»
 refine wpAny_bind (m := checkCount "sorted" 1 1 _) (wpAny_pure ?_)
 refine wpAny_bind (hc _ _ _ rfl fun h1 tk k1 => ?_)
 refine wpAny_bind (wpAny_newList ?_ (by rw [sizeLine_eq]; omega))
 have hoL : (h1.push (seqObj "list" vs.toArray 0)).get? h1.objs.size = some (seqObj "list" vs.toArray 0) := Heap.get?_push_size _ rfl
 refine wpAny_bind (wpAny_holding (wpAny_call_entry (s := { s with heap := h1.push (seqObj "list" vs.toArray 0),toks := tk }) slot_list_sort ⟨_,hoL,rfl⟩ entry_list_sort (list_sort_P hoL (hI.keeps fun b o e _ => Heap.get?_push_of_some _ (k1 b o e)) nd h64 fun is a1 a2 => ⟨_,rfl,?_⟩) (args_list_sort _)))
 refine wpAny_pure ⟨_,rfl,?_⟩
 obtain ⟨e,he⟩ := sortedHeap_at (out := (is.map fun i => vs.getD i Value.none).toArray) hoL
 refine h h1 _ tk _ e is k1 (fun b o q1 => ?_) (Nat.le_refl _) a1 a2 he
 have lt := Heap.lt_size q1
 rw [sortedHeap_old (Nat.ne_of_lt lt) (by rw [Heap.size_push]; exact Nat.lt_succ_of_lt lt)]
 exact Heap.get?_push_of_some _ q1
theorem vals_getD : ∀ {ys : List V} {us : List Value} (i : Nat),zav ys us -> i < ys.length -> zaG (ys.getD i .non) (us.getD i .none)
 | _,_,i,r,hi => by
  obtain ⟨u,hu,ru⟩ := r.get (List.getElem?_eq_getElem hi)
  rw [List.getD_eq_getElem?_getD,List.getD_eq_getElem?_getD,hu,List.getElem?_eq_getElem hi]
  exact ru
theorem vals_ix {ys : List V} {us : List Value} (r : zav ys us) : ∀ {is : List Nat},(∀ i ∈ is,i < ys.length) -> zav (is.map fun i => ys.getD i .non) (is.map fun i => us.getD i .none)
 | [],_ => .nil
 | i :: t,h => .cons (vals_getD i r (h i (List.mem_cons_self ..))) (vals_ix r fun j hj => h j (List.mem_cons_of_mem _ hj))
end
section
variable {X : Cx}
theorem call_sortedP (hc : X.calm = true) : zbG X (.builtin "sorted") (fun xs H Q => ∃ p ys qs,xs = [.ref p] /\ SqL X.K H p ys /\ Paired (fun (y : V) (q : Int × Int) => ∃ a,y = .ref a /\ SqT X.K H a [.int q.1,.int q.2]) ys qs /\ qs.Nodup /\ qs.length < 64 /\
  ∀ (is : List Nat) (l : Addr),is.Perm (List.range ys.length) -> is.map (fun i => qs.getD i (0,0)) = zbf qs -> H l = none -> Q (.ref l) (upd H l (.lst (is.map fun i => ys.getD i .non)))) := by
 intro pins s σ H xs us Q I r h
 obtain ⟨p,ys,qs,rfl,hq,ps,nd,h64,q⟩ := h
 obtain ⟨u,rfl,ru⟩ := vals1 r
 cases ru
 obtain ⟨its,rv,pl,hz⟩ := I.list hq
 have hl1 : ys.length = its.length := rv.length
 have hl2 : ys.length = qs.length := Paired.length ps
 have pa : zbk s.heap its qs := by
  clear q pl hq r hz hl1 hl2 nd h64
  induction ps generalizing its with
  | nil => cases rv; exact .nil
  | cons hd tl ih =>
   cases rv with
   | cons r1 rr =>
    obtain ⟨a,ea,sa⟩ := hd
    subst ea
    cases r1
    obtain ⟨its',rv',pt,_⟩ := I.tuple sa
    cases rv' with
    | cons r1 rr' => cases rr' with
     | cons r2 rr' => cases rr'; obtain ⟨t,rfl⟩ := r1; obtain ⟨t',rfl⟩ := r2; exact .cons ⟨a,t,t',rfl,pt⟩ (ih _ rr)
 refine sortedP_of pa nd (by omega) (fun A' E' Q' _ q' => collect_list pl.isList (q' _ s.toks fun b o z => ?_) (by rw [sizeLine_eq]; omega)) fun h1 h' tk l e is k1 k2 hp pm so e1 => ?_
 ·have lt := Heap.lt_size z
  rw [Heap.get?_update_ne _ _ _ _ (Nat.ne_of_lt lt)]
  exact Heap.get?_push_of_some _ z
 ·have I1 : Inv X pins σ H { s with heap := h1,toks := tk } := I.kept k1
  have hn := I1.hok.fresh hp
  rw [<- hl1] at pm
  have hb : ∀ i ∈ is,i < ys.length := fun i hi => List.mem_range.mp (pm.mem_iff.mp hi)
  have I2 : Inv X pins σ (upd H l (.lst (is.map fun i => ys.getD i .non))) { s with heap := h',toks := tk } := I1.laid (t' := tk) k2 hp ⟨by rw [List.length_map,pm.length_eq,List.length_range,sizeLine_eq]; omega,_,e,vals_ix rv hb,e1⟩
  exact ⟨.ref l,_,I2,rfl,q is l pm so hn⟩
def tLR (t : TA) : TE := fun σ H Q => t σ H fun vs H1 => ∃ j : Int,vs = [.int j] /\ 0 <= j /\ j <= 1000000 /\ ∀ l,H1 l = none -> Q (.ref l) (upd H1 l (.lst ((List.range j.toNat).map fun (k : Nat) => V.int k)))
theorem pe_listRange {a : Expr} {t : TA} {p pos p2 pos2 : Pos} (hm : X.mg "list" = none) (hm2 : X.mg "range" = none) (ha : PA X [a] t) (hg : Gl X "list") (hg2 : Gl X "range") (hs : starEach [a] X.env = [(false,eval a X.env)])
  (he : starEach [Expr.Call (.Name "range" p2) [a] [] pos2] X.env = [(false,eval (Expr.Call (.Name "range" p2) [a] [] pos2) X.env)]) (hc : X.calm = true) :
  PE X (.Call (.Name "list" p) [Expr.Call (.Name "range" p2) [a] [] pos2] [] pos) (tLR t) := by
 intro pins s σ H Q I h
 refine wpAny_Call_Name_kw (ld_blt I hg hm boot_list ?_)
 refine PyProof.Rows.callWith_type1 ?_ he rfl
 rw [he]
 refine Calls.spliced_cons ?_
 refine Call_ (ld_blt I hg2 hm2 boot_range (PyProof.Rows.callWith_type1 (thn (ha pos2 pins s σ H _ I h) fun us s1 ⟨vs,H1,I1,r1,q1⟩ => ?_) hs rfl))
 obtain ⟨j,e,h0,h1,q⟩ := q1
 subst e
 cases r1 with
 | cons r rr =>
  cases rr
  obtain ⟨t',rfl⟩ := r
  refine call_range_1 (Calls.spliced_nil ?_)
  have kp : ∀ b o,s1.heap.get? b = some o -> (s1.heap.push { cls := .type "range",data := .fields #[.int 0 s1.toks,.int j t',.int 1 (s1.toks + 1)] }).get? b = some o := fun b o e => Heap.get?_push_of_some _ e
  have I2 : Inv X pins σ H1 { s1 with heap := s1.heap.push { cls := .type "range",data := .fields #[.int 0 s1.toks,.int j t',.int 1 (s1.toks + 1)] },toks := s1.toks + 1 + 1 } := I1.kept kp
  refine call_list_range (n := j.toNat) (I1.ok.hd hc) (IsRange.new ..) (small_one (by omega) (by omega) (by omega) (by omega)) (by rw [rangeSize_one]; split <;> omega) (by omega) fun h' tk acc c' k2 hS items => ?_
  have hlen : ((List.range j.toNat).map fun (k : Nat) => V.int k).length <= sizeLine := by rw [List.length_map,List.length_range,sizeLine_eq]; omega
  have hn := I2.hok.fresh (Nat.le_refl _)
  have vals : zav ((List.range j.toNat).map fun (k : Nat) => V.int k) acc.toList := by
   have key : ∀ (m i : Nat),i + m = j.toNat -> zav ((List.range' i m).map fun (k : Nat) => V.int k) (acc.toList.drop i) := by
    intro m
    induction m with
    | zero =>
     intro i hi
     have : acc.toList.drop i = [] := List.drop_eq_nil_of_le (by rw [Array.length_toList,items.1]; omega)
     rw [this]; exact .nil
    | succ m ih =>
     intro i hi
     have hlt : i < acc.toList.length := by rw [Array.length_toList,items.1]; omega
     rw [List.drop_eq_getElem_cons hlt,List.range'_succ,List.map_cons]
     refine .cons ?_ (ih (i + 1) (by omega))
     have hlt' : i < acc.size := by simpa using hlt
     obtain ⟨t2,e2⟩ := items.2 i acc[i] (by simp [hlt'])
     refine ⟨t2,?_⟩
     rw [Array.getElem_toList,e2]
     simp
   have := key j.toNat 0 (by omega)
   rwa [List.drop_zero,<- List.range_eq_range'] at this
  have I3 : Inv X pins σ (upd H1 _ (.lst ((List.range j.toNat).map fun (k : Nat) => V.int k))) { s1 with heap := h',toks := tk } := I2.laid (t' := tk) k2 (Nat.le_refl _) ⟨hlen,acc.toList,c',vals,by simpa using hS⟩
  exact ⟨.ref _,_,I3,rfl,q _ hn⟩
end
end L2
namespace L3
open PySem PySem.Spec PyProof.Rows L2
section
variable {X : Cx} {e a b c o i l : Expr} {es : List Expr} {pos apos p p2 pos2 : Pos} {ta tb tc tv to ti tl : TE3} {t : TA3} {k : Nat} {tg : Expr} {st : Stmt}
theorem dens_ix {K : KW} {H : Hp} {ys : List V} {qs : List (Int × Int)} (d : Dens K H ys (qs.map pT)) : ∀ {is : List Nat},(∀ i ∈ is,i < ys.length) -> Dens K H (is.map fun i => ys.getD i .non) ((is.map fun i => qs.getD i (0,0)).map pT)
 | [],_ => .nil
 | j :: r,h => by
  refine .cons ?_ (dens_ix d fun j hj => h j (List.mem_cons_of_mem _ hj))
  have hj := h j (List.mem_cons_self ..)
  obtain ⟨t',e1,d1⟩ := d.getV (List.getElem?_eq_getElem hj)
  rw [List.getElem?_map,Option.map_eq_some_iff] at e1
  obtain ⟨q,e2,rfl⟩ := e1
  show Den K H (ys.getD j .non) (pT (qs.getD j (0,0)))
  rw [List.getD_eq_getElem?_getD,List.getD_eq_getElem?_getD,e2,List.getElem?_eq_getElem hj]
  exact d1
def srtP3 : List T -> Gp -> VK3 -> Prop := fun ts G Q => match ts with
 | [.ref q] => (match G q with
  | some (.lst us) => ∃ qs : List (Int × Int),us = qs.map pT /\ qs.Nodup /\ qs.length < 64 /\ ∀ p,G p = none -> Q (.ref p) (updG G p (.lst ((zbf qs).map pT)))
  | _ => False)
 | _ => False
theorem qsortedP (hm : X.mg "sorted" = none) (ha : QA X (e :: es) t) (hg : Gl X "sorted" := by rfl) (he : starEach (e :: es) X.env = (false,eval e X.env) :: starEach es X.env := by rfl) (hpl : (backTo pos (starEach es X.env)).any (·.1) = false := by rfl) (hc : X.calm = true := by rfl) :
  QE X (.Call (.Name "sorted" p) (e :: es) [] pos) (wCB srtP3 t) := qcallB (call_sortedP hc) (fun H G xs ts Q Q3 d r h im => by
 unfold srtP3 at h
 split at h
 ·cases d with
  | cons d1 d2 =>
   cases d2
   cases d1
   split at h
   ·rename_i us eg
    obtain ⟨ys,e1,ds⟩ := r _ _ eg
    obtain ⟨qs,eu,nd,h64,h⟩ := h
    subst eu
    refine ⟨_,ys,qs,rfl,SqL.of e1,dens_pairs ds,nd,h64,fun is l pm so hn => ?_⟩
    have hb : ∀ i ∈ is,i < ys.length := fun i hi => List.mem_range.mp (pm.mem_iff.mp hi)
    refine im _ _ _ _ (h l (r.free hn)) (Kp.new hn) (.ref l) (r.new (o := .lst ((zbf qs).map pT)) hn ⟨_,zag,?_⟩)
    rw [<- so]
    exact (dens_ix ds hb).mono (Kp.new hn)
   ·exact h.elim
 ·exact h.elim) hm boot_sorted ha hg (by decide) (by decide) he hpl
def wLR (t : TA3) : TE3 := fun τ G Q => t τ G fun ts G1 => match ts with
 | [.int j] => 0 <= j /\ j <= 1000000 /\ ∀ p,G1 p = none -> Q (.ref p) (updG G1 p (.lst ((List.range j.toNat).map fun (k : Nat) => T.int k)))
 | _ => False
theorem qlistR (hm : X.mg "list" = none) (hm2 : X.mg "range" = none) (ha : QA X [a] t) (hg : Gl X "list" := by rfl) (hg2 : Gl X "range" := by rfl) (hs : starEach [a] X.env = [(false,eval a X.env)] := by rfl)
  (he : starEach [Expr.Call (.Name "range" p2) [a] [] pos2] X.env = [(false,eval (Expr.Call (.Name "range" p2) [a] [] pos2) X.env)] := by rfl) (hc : X.calm = true := by rfl) :
  QE X (.Call (.Name "list" p) [Expr.Call (.Name "range" p2) [a] [] pos2] [] pos) (wLR t) := (pe_listRange hm hm2 ha hg hg2 hs he hc).imp fun σ H Q ⟨τ,G,Q3,s,r,h,im⟩ => by
 refine ⟨τ,G,_,s,r,h,fun ts G1 vs H1 h1 k1 d1 r1 => ?_⟩
 cases d1 with
 | nil => exact h1.elim
 | cons d2 d3 =>
  cases d3 with
  | cons d4 d5 => cases d2 <;> exact h1.elim
  | nil =>
   cases d2 with
   | int j =>
    obtain ⟨q0,q1,q2⟩ := h1
    refine ⟨j,rfl,q0,q1,fun l hl => im _ _ _ _ (q2 l (r1.free hl)) (k1.trans (Kp.new hl)) (.ref l) (r1.new (o := .lst ((List.range j.toNat).map fun (k : Nat) => T.int k)) hl ⟨_,zag,?_⟩)⟩
    have e1 : ((List.range j.toNat).map fun (k : Nat) => V.int k) = ((List.range j.toNat).map fun (k : Nat) => (k : Int)).map V.int := by rw [List.map_map]; rfl
    have e2 : ((List.range j.toNat).map fun (k : Nat) => T.int k) = ((List.range j.toNat).map fun (k : Nat) => (k : Int)).map T.int := by rw [List.map_map]; rfl
    rw [e1,e2]
    exact Dens.ints _
   | _ => exact h1.elim
def pop3 (x : T) (ts : List T) (G : Gp) (Q : VK3) : Prop := match x,ts with
 | .ref p,[.int i] => (match G p with
  | some (.lst us) => 0 <= i /\ i < us.length /\ us.length <= 1000000 /\ Q (us.getD i.toNat .non) (updG G p (.lst (us.eraseIdx i.toNat)))
  | _ => False)
 | _,_ => False
def wPop (ta : TE3) (t : TA3) : TE3 := fun τ G Q => ta τ G fun x G1 => onLst x G1 (t τ G1 fun ts G2 => pop3 x ts G2 Q)
theorem Dens.erase {K : KW} {H : Hp} : ∀ {vs : List V} {ts : List T} (i : Nat),Dens K H vs ts -> Dens K H (vs.eraseIdx i) (ts.eraseIdx i)
 | _,_,_,.nil => .nil
 | _,_,0,.cons _ b => b
 | _,_,i + 1,.cons a b => .cons a (Dens.erase i b)
theorem qpopAt (ho : QE X o ta) (ha : QA X (e :: es) t) (hbase : attributeBase o "pop" X.env (eval o X.env) = eval o X.env := by rfl)
  (hfew : ((backTo pos (starEach (e :: es) X.env)).all (fun x => !x.1) && (backToKw pos (keywordEach [] X.env)).all (fun x => x.1.isSome)
   && decide ((e :: es).length + ([] : List Keyword).length + (if ([] : List Keyword).isEmpty then 0 else 1) < 30)) = true := by rfl)
  (hline : (apos.endLine == pos.line) = true := by rfl) (hs : starEach (e :: es) X.env = (false,eval e X.env) :: starEach es X.env := by rfl) (hplain : (backTo pos (starEach es X.env)).any (·.1) = false := by rfl) :
  QE X (.Call (.Attribute o "pop" apos) (e :: es) [] pos) (wPop ta t) :=
 (pe_bm PySem.F.plainAttrs_list PySem.F.slot_list_pop PySem.F.type_list_pop mt_popAt ho ha hbase hfew hline hs hplain).imp fun σ H Q ⟨τ,G,Q3,s,r,h,i⟩ => by
  refine ⟨τ,G,_,s,r,h,fun x G1 v H1 h1 k1 d1 r1 => ?_⟩
  cases d1 with
  | ref p =>
   simp only [onLst] at h1
   split at h1
   ·rename_i us e1
    obtain ⟨xs,e2,ds⟩ := r1 p _ e1
    refine ⟨.inl ⟨rfl,_,SqL.of e2⟩,τ,G1,_,s.mono k1,r1,h1,fun ts G2 vs H2 h2 k2 d2 r2 => ?_⟩
    unfold pop3 at h2
    split at h2
    ·rename_i p' j ep
     cases ep
     cases d2 with
     | cons d3 d4 =>
      cases d4
      cases d3
      split at h2
      ·rename_i us' e5
       obtain ⟨ys,e6,ds6⟩ := r2 p _ e5
       obtain ⟨q0,q1,q2,q3⟩ := h2
       have hl := ds6.length
       have km : ∀ z,Kp H2 (upd H2 p (.lst z)) := fun z => Kp.mut (by rw [e6]; trivial)
       have hj : j.toNat < ys.length := by omega
       obtain ⟨t',et,dt⟩ := ds6.getV (List.getElem?_eq_getElem hj)
       refine ⟨p,ys,j,j.toNat,ys[j.toNat],rfl,rfl,e6,by omega,by omega,seqIndex_of q0 (by omega),List.getElem?_eq_getElem hj,i _ _ _ _ q3 ((k1.trans k2).trans (km _)) ?_ (r2.put e5 ⟨_,zag,(Dens.erase _ ds6).mono (km _)⟩)⟩
       have : us'.getD j.toNat .non = t' := by rw [List.getD_eq_getElem?_getD,et]; rfl
       rw [this]
       exact dt.mono (km _)
      ·exact h2.elim
    ·exact h2.elim
   ·exact h1.elim
  | _ => exact False.elim h1
def cat3 : R3 := fun x y G Q => match x,y with
 | .ref p,.ref q => (match G p,G q with
  | some (.lst us),some (.lst vs) => us.length + vs.length <= 1000000 /\ ∀ l,G l = none -> Q (.ref l) (updG G l (.lst (us ++ vs)))
  | _,_ => False)
 | _,_ => False
theorem qcat (ha : QE X a ta) (hb : QE X b tb) : QE X (.BinOp a .Add b pos) (wOp cat3 ta tb) := qop op_cat (fun H G x y x3 y3 Q Q3 dx dy r h im => by
 unfold cat3 at h
 split at h
 ·rename_i p q
  cases dx
  cases dy
  split at h
  ·rename_i us vs e1 e2
   obtain ⟨xs,f1,d1⟩ := r _ _ e1
   obtain ⟨zs,f2,d2⟩ := r _ _ e2
   refine ⟨_,_,xs,zs,rfl,rfl,f1,f2,by rw [d1.length,d2.length,sizeLine_eq]; omega,fun l hl => ?_⟩
   exact im _ _ _ _ (h.2 l (r.free hl)) (Kp.new hl) (.ref l) (r.new (o := .lst (us ++ vs)) hl ⟨_,zag,(d1.append d2).mono (Kp.new hl)⟩)
  ·exact h.elim
 ·exact h.elim) ha hb
end
end L3
set_option linter.all false
set_option maxHeartbeats 1000000
namespace Tb
open PySem PySem.SetTable
def up : Nat -> Nat -> Nat
 | 0,x => x
 | m + 1,x => up m (5 * x + 1)
theorem up_add (a b x : Nat) : up (a + b) x = up b (up a x) := by
 induction a generalizing x with
 | zero => simp [up]
 | succ a ih => rw [show a + 1 + b = (a + b) + 1 by omega]; exact ih _
theorem up_two (k : Nat) : ∃ a c,∀ x,up (2 ^ k) x = (1 + 2 ^ (k + 2) * a) * x + 2 ^ k * (2 * c + 1) := by
 induction k with
 | zero => exact ⟨1,0,fun x => by simp [up]⟩
 | succ k ih =>
  obtain ⟨a,c,e⟩ := ih
  refine ⟨a + 2 ^ (k + 1) * (a * a),c + 2 ^ k * a * (2 * c + 1),fun x => ?_⟩
  rw [show 2 ^ (k + 1) = 2 ^ k + 2 ^ k by omega,up_add,e,e]
  rw [show (2:Nat) ^ (k + 1 + 2) = 2 ^ k * 8 by rw [Nat.pow_add,Nat.pow_add]; omega,show (2:Nat) ^ (k + 2) = 2 ^ k * 4 by rw [Nat.pow_add]]
  generalize 2 ^ k = z
  grind
theorem up_mod (M m x : Nat) : up m x % M = up m (x % M) % M := by
 induction m generalizing x with
 | zero => simp [up]
 | succ m ih =>
  show up m (5 * x + 1) % M = up m (5 * (x % M) + 1) % M
  rw [ih (5 * x + 1),ih (5 * (x % M) + 1)]
  congr 2
  rw [Nat.add_mod,Nat.mul_mod,Nat.add_mod (5 * (x % M)),Nat.mul_mod 5 (x % M),Nat.mod_mod]
theorem half {z y e : Nat} (hz : 0 < z) (h : e < 2 * z) (em : y % z = e % z) (ne : y % (2 * z) ≠ e) : (y + z) % (2 * z) = e := by
 have d := Nat.div_add_mod y (2 * z)
 have l := Nat.mod_lt y (show 0 < 2 * z by omega)
 generalize y % (2 * z) = r at *
 have e1 : y % z = r % z := by rw [<- d,Nat.mul_comm 2 z,Nat.mul_assoc,Nat.mul_add_mod]
 have q : (y + z) % (2 * z) = (r + z) % (2 * z) := by rw [<- d,Nat.add_assoc,Nat.mul_add_mod]
 rw [q]
 have small : ∀ u,u < 2 * z -> u % z = if u < z then u else u - z := fun u hu => by
  split
  ·exact Nat.mod_eq_of_lt ‹_›
  ·rw [Nat.mod_eq_sub_mod (by omega)]; exact Nat.mod_eq_of_lt (by omega)
 rw [e1,small r l,small e h] at em
 by_cases c : r + z < 2 * z
 ·rw [Nat.mod_eq_of_lt c]; split at em <;> split at em <;> omega
 ·rw [Nat.mod_eq_sub_mod (by omega),Nat.mod_eq_of_lt (by omega)]; split at em <;> split at em <;> omega
theorem up_all (k x e : Nat) (h : e < 2 ^ k) : ∃ m,m < 2 ^ k /\ up m x % 2 ^ k = e := by
 induction k generalizing e with
 | zero => exact ⟨0,by simp,by simp at h; simp [Nat.mod_one,h]⟩
 | succ k ih =>
  have h2 : (2:Nat) ^ (k + 1) = 2 * 2 ^ k := by omega
  obtain ⟨m,hm,em⟩ := ih (e % 2 ^ k) (Nat.mod_lt _ (Nat.two_pow_pos k))
  obtain ⟨a,c,eu⟩ := up_two k
  have e2 : up (m + 2 ^ k) x = (1 + 2 ^ (k + 2) * a) * up m x + 2 ^ k * (2 * c + 1) := by rw [up_add,eu]
  rw [show (2:Nat) ^ (k + 2) = 2 ^ k * 4 by rw [Nat.pow_add]] at e2
  rw [h2] at h ⊢
  by_cases hy : up m x % (2 * 2 ^ k) = e
  ·exact ⟨m,by omega,hy⟩
  ·refine ⟨m + 2 ^ k,by omega,?_⟩
   rw [e2]
   have e3 : (1 + 2 ^ k * 4 * a) * up m x + 2 ^ k * (2 * c + 1) = (up m x + 2 ^ k) + 2 * 2 ^ k * (2 * a * up m x + c) := by grind
   rw [e3,Nat.add_mul_mod_self_left]
   exact half (Nat.two_pow_pos k) h em hy
end Tb
set_option linter.all false
set_option maxHeartbeats 1000000
namespace Tb
open PySem PySem.SetTable
def lps (mask : Nat) : Nat -> Nat × Nat -> Nat × Nat
 | 0,q => q
 | m + 1,q => lps mask m (leap mask q.1 q.2)
theorem lps_add (mask a b : Nat) (q : Nat × Nat) : lps mask (a + b) q = lps mask b (lps mask a q) := by
 induction a generalizing q with
 | zero => simp [lps]
 | succ a ih => rw [show a + 1 + b = (a + b) + 1 by omega]; exact ih _
theorem lps_snd (mask m : Nat) (q : Nat × Nat) : (lps mask m q).2 = q.2 / 32 ^ m := by
 induction m generalizing q with
 | zero => simp [lps]
 | succ m ih =>
  show (lps mask m (leap mask q.1 q.2)).2 = _
  rw [ih,Nat.pow_succ,Nat.mul_comm,<- Nat.div_div_eq_div_mul]; rfl
theorem lps_fst_lt (mask m : Nat) (q : Nat × Nat) : (lps mask (m + 1) q).1 < mask + 1 := by
 rw [lps_add]; exact Nat.mod_lt _ (Nat.succ_pos _)
theorem lps_up (mask m i : Nat) (h : i < mask + 1) : (lps mask m (i,0)).1 = up m i % (mask + 1) := by
 induction m generalizing i with
 | zero => exact (Nat.mod_eq_of_lt h).symm
 | succ m ih =>
  show (lps mask m ((i * 5 + 1 + 0 / 32) % (mask + 1),0 / 32)).1 = up m (5 * i + 1) % (mask + 1)
  rw [up_mod,Nat.zero_div,ih _ (Nat.mod_lt _ (Nat.succ_pos _))]
  simp [Nat.mul_comm]
theorem lps_all {mask k i pt e : Nat} (hk : mask + 1 = 2 ^ k) (hp : pt < 2 ^ 64) (he : e <= mask) : ∃ m,m <= mask + 12 /\ (lps mask (m + 1) (i,pt)).1 = e := by
 have h0 : (lps mask 13 (i,pt)).2 = 0 := by rw [lps_snd]; exact Nat.div_eq_of_lt (Nat.lt_of_lt_of_le hp (by decide))
 have hl : (lps mask 13 (i,pt)).1 < mask + 1 := lps_fst_lt mask 12 _
 obtain ⟨m,hm,em⟩ := up_all k (lps mask 13 (i,pt)).1 e (by omega)
 refine ⟨12 + m,by omega,?_⟩
 rw [show 12 + m + 1 = 13 + m by omega,lps_add]
 rw [show lps mask 13 (i,pt) = ((lps mask 13 (i,pt)).1,0) from Prod.ext rfl h0,lps_up mask m _ hl,hk]
 exact em
theorem free_ok {mask k : Nat} (owner : Array (Option Nat)) (m : Nat) : ∀ (fuel i pt : Nat),m < fuel -> (owner.getD (lps mask m (i,pt)).1 (some 0)).isNone = true ->
  ∃ j,layClean.free mask owner fuel i pt = some j /\ (owner.getD j (some 0)).isNone = true := by
 induction m with
 | zero =>
  intro fuel i pt lt h
  obtain ⟨f,rfl⟩ : ∃ f,fuel = f + 1 := ⟨fuel - 1,by omega⟩
  unfold layClean.free
  split
  ·rename_i c e
   exact ⟨_,rfl,by simpa using List.find?_some e⟩
  ·rename_i e
   exfalso
   rw [List.find?_eq_none] at e
   refine e 0 (List.mem_range.mpr ?_) (by simpa [lps] using h)
   unfold runEnd; split <;> omega
 | succ m ih =>
  intro fuel i pt lt h
  obtain ⟨f,rfl⟩ : ∃ f,fuel = f + 1 := ⟨fuel - 1,by omega⟩
  unfold layClean.free
  split
  ·rename_i c e
   exact ⟨_,rfl,by simpa using List.find?_some e⟩
  ·exact ih f _ _ (by omega) h
def steps (t : SetTable) : Nat -> Probe -> Probe
 | 0,p => p
 | m + 1,p => steps t m (t.advance p)
theorem steps_add (t : SetTable) (a b : Nat) (p : Probe) : steps t (a + b) p = steps t b (steps t a p) := by
 induction a generalizing p with
 | zero => simp [steps]
 | succ a ih => rw [show a + 1 + b = (a + b) + 1 by omega]; exact ih _
structure POk (t : SetTable) (p : Probe) : Prop where
 more : p.more <= 9
 pt : p.perturb < 2 ^ 64
 d : p.dummy = none
 j : p.j + p.more <= t.mask
 i : p.i <= t.mask
theorem runs (mask i : Nat) : runEnd mask i - i <= 9 /\ (i <= mask -> i + (runEnd mask i - i) <= mask) := by
 unfold runEnd; split <;> constructor <;> omega
theorem POk.adv {t : SetTable} {p : Probe} (o : POk t p) : POk t (t.advance p) := by
 obtain ⟨h1,h2,h3,h4,h5⟩ := o
 unfold advance
 split
 ·exact ⟨by simp; omega,h2,h3,by simp; omega,h5⟩
 ·have l : (p.i * 5 + 1 + p.perturb / 32) % (t.mask + 1) <= t.mask := Nat.le_of_lt_succ (Nat.mod_lt _ (Nat.succ_pos _))
  exact ⟨(runs _ _).1,Nat.lt_of_le_of_lt (Nat.div_le_self _ _) h2,h3,(runs _ _).2 l,l⟩
theorem POk.start (t : SetTable) (h : Int) : POk t (t.probeStart h) := by
 have l : bits h % (t.mask + 1) <= t.mask := Nat.le_of_lt_succ (Nat.mod_lt _ (Nat.succ_pos _))
 have b : bits h < 2 ^ 64 := by unfold bits; omega
 exact ⟨(runs _ _).1,b,rfl,(runs _ _).2 l,l⟩
theorem to_base (t : SetTable) : ∀ (r : Nat) (p : Probe),p.more = r -> steps t (r + 1) p = { p with j := (leap t.mask p.i p.perturb).1,more := runEnd t.mask (leap t.mask p.i p.perturb).1 - (leap t.mask p.i p.perturb).1,i := (leap t.mask p.i p.perturb).1,perturb := (leap t.mask p.i p.perturb).2 }
 | 0,p,h => by simp [steps,advance,h]
 | r + 1,p,h => by
  show steps t (r + 1) (t.advance p) = _
  have e : t.advance p = { p with j := p.j + 1,more := p.more - 1 } := by unfold advance; rw [if_pos (by omega)]
  rw [e,to_base t r _ (by simp; omega)]
theorem to_bases (t : SetTable) (m : Nat) : ∀ p : Probe,p.more <= 9 -> ∃ c,c <= 10 * (m + 1) /\ (steps t c p).j = (lps t.mask (m + 1) (p.i,p.perturb)).1 /\ (steps t c p).i = (lps t.mask (m + 1) (p.i,p.perturb)).1 /\ (steps t c p).perturb = (lps t.mask (m + 1) (p.i,p.perturb)).2 /\ (steps t c p).more <= 9 := by
 induction m with
 | zero => exact fun p h => ⟨p.more + 1,by omega,by rw [to_base t _ p rfl]; exact ⟨rfl,rfl,rfl,(runs _ _).1⟩⟩
 | succ m ih =>
  intro p h
  obtain ⟨c,hc,e1,e2,e3,e4⟩ := ih p h
  refine ⟨c + ((steps t c p).more + 1),by omega,?_⟩
  rw [steps_add,to_base t _ _ rfl,e2,e3,lps_add t.mask (m + 1) 1]
  exact ⟨rfl,rfl,rfl,(runs _ _).1⟩
theorem meets {t : SetTable} {k e : Nat} (hk : t.mask + 1 = 2 ^ k) {p : Probe} (o : POk t p) (he : e <= t.mask) : ∃ m,m < 10 * turns t.mask /\ (steps t m p).j = e := by
 obtain ⟨m,hm,em⟩ := lps_all (i := p.i) hk o.pt he
 obtain ⟨c,hc,ec,_⟩ := to_bases t m p o.more
 exact ⟨c,by unfold turns; omega,ec.trans em⟩
theorem go_ends {t : SetTable} (nd : t.dummies = #[]) (hashAt : Nat -> Int) (h : Int) (m : Nat) : ∀ (p : Probe) (fuel : Nat),m < fuel -> POk t p -> t.slot (steps t m p).j = .empty ->
  (∃ j,probe.go t hashAt h fuel p = some (.empty j none) /\ t.slot j = .empty /\ j <= t.mask) ∨
  (∃ j i p' m',probe.go t hashAt h fuel p = some (.candidate j i p') /\ t.slot j = .live i /\ hashAt i = h /\ POk t p' /\ m' < m /\ t.slot (steps t m' p').j = .empty) := by
 have noD : ∀ j,t.slot j ≠ .dummy := fun j => by
  unfold slot has; rw [nd]; intro e
  simp only at e
  split at e
  ·cases e
  ·rw [if_neg (by simp)] at e; cases e
 induction m with
 | zero =>
  intro p fuel lt o e
  obtain ⟨f,rfl⟩ : ∃ f,fuel = f + 1 := ⟨fuel - 1,by omega⟩
  unfold probe.go
  rw [show t.slot p.j = .empty from e]
  exact .inl ⟨p.j,by rw [o.d],e,by have := o.j; omega⟩
 | succ m ih =>
  intro p fuel lt o e
  obtain ⟨f,rfl⟩ : ∃ f,fuel = f + 1 := ⟨fuel - 1,by omega⟩
  unfold probe.go
  cases hs : t.slot p.j with
  | empty => exact .inl ⟨p.j,by simp [o.d],hs,by have := o.j; omega⟩
  | dummy => exact absurd hs (noD _)
  | live i =>
   simp only
   split
   ·rename_i q
    exact .inr ⟨p.j,i,_,m,rfl,hs,by simpa using q,o.adv,by omega,e⟩
   ·rcases ih (t.advance p) f (by omega) o.adv e with r | ⟨j,i,p',m',r1,r2,r3,r4,r5,r6⟩
    ·exact .inl r
    ·exact .inr ⟨j,i,p',m',r1,r2,r3,r4,by omega,r6⟩
abbrev Ris (xs : Array Nat) : Prop := xs.toList.Pairwise (· < ·)
theorem Ris.lt {xs : Array Nat} (r : Ris xs) {a b x y : Nat} (ab : a < b) (ha : xs[a]? = some x) (hb : xs[b]? = some y) : x < y := by
 have ha' := ha; have hb' := hb
 rw [Array.getElem?_eq_some_iff] at ha hb
 obtain ⟨la,ea⟩ := ha; obtain ⟨lb,eb⟩ := hb
 have := List.pairwise_iff_getElem.mp r a b (by simpa using la) (by simpa using lb) ab
 simp at this; omega
theorem go_below {xs : Array Nat} (r : Ris xs) (j : Nat) : ∀ (fuel lo hi : Nat),hi - lo <= fuel -> lo <= hi -> hi <= xs.size -> (∀ i v,xs[i]? = some v -> i < lo -> v < j) -> (∀ i v,xs[i]? = some v -> hi <= i -> ¬ v < j) ->
  below.go xs j fuel lo hi <= xs.size /\ ∀ i v,xs[i]? = some v -> (v < j ↔ i < below.go xs j fuel lo hi)
 | 0,lo,hi,f,l,u,a,b => by
  have : lo = hi := by omega
  subst this
  exact ⟨u,fun i v e => ⟨fun h => Classical.byContradiction fun c => b i v e (by simp [below.go] at c; omega) h,a i v e⟩⟩
 | fuel + 1,lo,hi,f,l,u,a,b => by
  unfold below.go
  split
  ·rename_i lt
   have hm : (lo + hi) / 2 < xs.size := by omega
   have em : xs[(lo + hi) / 2]? = some (xs[(lo + hi) / 2]) := Array.getElem?_eq_getElem hm
   have gd : xs.getD ((lo + hi) / 2) j = xs[(lo + hi) / 2] := by simp [Array.getD,hm]
   simp only [gd]
   split
   ·rename_i h
    refine go_below r j fuel _ hi (by omega) (by omega) u (fun i v e c => ?_) b
    by_cases q : i = (lo + hi) / 2
    ·subst q; rw [em] at e; injection e with e; omega
    ·exact Nat.lt_trans (r.lt (by omega) e em) h
   ·rename_i h
    refine go_below r j fuel lo _ (by omega) (by omega) (by omega) a (fun i v e c => ?_)
    by_cases q : i = (lo + hi) / 2
    ·subst q; rw [em] at e; injection e with e; omega
    ·have := r.lt (show (lo + hi) / 2 < i by omega) em e; omega
  ·have : lo = hi := by omega
   subst this
   exact ⟨u,fun i v e => ⟨fun h => Classical.byContradiction fun c => b i v e (by omega) h,a i v e⟩⟩
theorem below_le {xs : Array Nat} (r : Ris xs) (j : Nat) : below xs j <= xs.size := (go_below r j xs.size 0 xs.size (by omega) (by omega) (Nat.le_refl _) (fun _ _ _ h => absurd h (by omega)) (fun i v e h => by
 have := (Array.getElem?_eq_some_iff.mp e).1; omega)).1
theorem zbP {xs : Array Nat} (r : Ris xs) (j : Nat) {i v : Nat} (e : xs[i]? = some v) : v < j ↔ i < below xs j := (go_below r j xs.size 0 xs.size (by omega) (by omega) (Nat.le_refl _) (fun _ _ _ h => absurd h (by omega)) (fun i v e h => by
 have := (Array.getElem?_eq_some_iff.mp e).1; omega)).2 i v e
theorem below_mem {xs : Array Nat} (r : Ris xs) {i v : Nat} (e : xs[i]? = some v) : below xs v = i := by
 have h1 := mt (zbP r v e).mpr (by omega)
 have : ¬ below xs v < i := fun c => by
  have lt : below xs v < xs.size := by have := (Array.getElem?_eq_some_iff.mp e).1; omega
  have := (zbP r v (Array.getElem?_eq_getElem lt)).mp (r.lt c (Array.getElem?_eq_getElem lt) e)
  omega
 omega
theorem below_next {xs : Array Nat} (r : Ris xs) {i v : Nat} (e : xs[i]? = some v) : below xs (v + 1) = i + 1 := by
 have h1 := (zbP r (v + 1) e).mp (by omega)
 have l := below_le r (v + 1)
 have : ¬ i + 1 < below xs (v + 1) := fun c => by
  have lt : i + 1 < xs.size := by omega
  have e2 := Array.getElem?_eq_getElem lt
  have a := (zbP r (v + 1) e2).mpr c
  have := r.lt (Nat.lt_succ_self i) e e2
  omega
 omega
theorem below_zero {xs : Array Nat} (r : Ris xs) : below xs 0 = 0 := by
 refine Classical.byContradiction fun c => ?_
 have l := below_le r 0
 have := (zbP r 0 (Array.getElem?_eq_getElem (show 0 < xs.size by omega))).mpr (by omega)
 omega
theorem Ris.put {xs : Array Nat} (r : Ris xs) {j : Nat} (n : j ∉ xs) : Ris (insertAt xs (below xs j) j) := by
 have el : (insertAt xs (below xs j) j).toList = xs.toList.take (below xs j) ++ j :: xs.toList.drop (below xs j) := by
  simp [insertAt,List.extract_eq_take_drop,List.take_of_length_le]
 show List.Pairwise _ _
 rw [el]
 have r' := r
 unfold Ris at r'
 rw [<- List.take_append_drop (below xs j) xs.toList,List.pairwise_append] at r'
 have lo : ∀ a ∈ xs.toList.take (below xs j),a < j := fun a ha => by
  obtain ⟨i,hi,e⟩ := List.mem_iff_getElem?.mp ha |>.imp fun i h => (⟨by
   have := (List.getElem?_eq_some_iff.mp h).1; rw [List.length_take] at this; omega,h⟩ : i < below xs j /\ _)
  rw [List.getElem?_take_of_lt hi,Array.getElem?_toList] at e
  exact (zbP r j e).mpr hi
 have hi : ∀ a ∈ xs.toList.drop (below xs j),j < a := fun a ha => by
  obtain ⟨i,e⟩ := List.mem_iff_getElem?.mp ha
  rw [List.getElem?_drop,Array.getElem?_toList] at e
  have h1 : ¬ a < j := fun c => by have := (zbP r j e).mp c; omega
  have h2 : a ≠ j := fun c => n (c ▸ Array.mem_of_getElem? e)
  omega
 refine List.pairwise_append.mpr ⟨r'.1,List.pairwise_cons.mpr ⟨hi,r'.2.1⟩,fun a ha b hb => ?_⟩
 rcases List.mem_cons.mp hb with rfl | hb
 ·exact lo a ha
 ·exact Nat.lt_trans (lo a ha) (hi b hb)
theorem pigeon : ∀ (N : Nat) (l : List Nat),l.Nodup -> (∀ a ∈ l,a < N) -> l.length < N -> ∃ e,e < N /\ e ∉ l
 | 0,l,_,_,h => absurd h (by omega)
 | N + 1,l,nd,a,h => by
  by_cases m : N ∈ l
  ·obtain ⟨e,he,ne⟩ := pigeon N (l.erase N) (nd.erase N) (fun x hx => by
    have h1 := (nd.mem_erase_iff.mp hx); have := a x h1.2; omega) (by
    rw [List.length_erase_of_mem m]; have := List.length_pos_of_mem m; omega)
   exact ⟨e,by omega,fun c => ne (nd.mem_erase_iff.mpr ⟨by omega,c⟩)⟩
  ·exact ⟨N,by omega,m⟩
theorem slot_of {t : SetTable} (nd : t.dummies = #[]) (r : Ris t.place) (j : Nat) : (j ∉ t.place ↔ t.slot j = .empty) /\ ∀ i,t.slot j = .live i -> t.place[i]? = some j := by
 have em : ∀ q,t.slot j = q -> (t.place[below t.place j]? = some j /\ q = .live (below t.place j)) ∨ (t.place[below t.place j]? ≠ some j /\ q = .empty) := fun q e => by
  unfold slot has at e
  rw [nd] at e
  simp only at e
  split at e
  ·rename_i h; exact .inl ⟨by simpa using h,e.symm⟩
  ·rename_i h; rw [if_neg (by simp)] at e; exact .inr ⟨by simpa using h,e.symm⟩
 refine ⟨⟨fun n => ?_,fun e c => ?_⟩,fun i e => ?_⟩
 ·rcases em _ rfl with ⟨h,_⟩ | ⟨_,h⟩
  ·exact absurd (Array.mem_of_getElem? h) n
  ·exact h
 ·rcases em _ e with ⟨_,h⟩ | ⟨h,_⟩
  ·cases h
  ·obtain ⟨i,hi⟩ := Array.getElem?_of_mem c
   exact h (by rw [below_mem r hi]; exact hi)
 ·rcases em _ e with ⟨h,h2⟩ | ⟨_,h⟩
  ·injection h2 with h2; subst h2; exact h
  ·cases h
end Tb
set_option linter.all false
set_option maxHeartbeats 1000000
namespace Tb
open PySem PySem.SetTable
structure THf (t : SetTable) (n : Nat) : Prop where
 k : ∃ k,3 <= k /\ t.mask + 1 = 2 ^ k
 d : t.dummies = #[]
 sz : t.place.size = n
 r : Ris t.place
 b : ∀ a ∈ t.place,a <= t.mask
 le : n <= t.mask
structure TOk (t : SetTable) (n : Nat) : Prop extends THf t n where
 f : n * 5 < t.mask * 3
theorem THf.m7 {t : SetTable} {n : Nat} (o : THf t n) : 7 <= t.mask := by
 obtain ⟨k,hk,e⟩ := o.k
 have := Nat.pow_le_pow_right (show 0 < 2 by decide) hk
 omega
theorem TOk.fresh (a b : Nat) (l : Bool) : TOk (.fresh a b l) 0 :=
 { k := ⟨3,Nat.le_refl _,rfl⟩,d := rfl,sz := rfl,r := .nil,b := fun a h => by simp [SetTable.fresh] at h,le := Nat.zero_le _,f := by show 0 * 5 < 7 * 3; decide }
theorem THf.fits {t : SetTable} {n : Nat} (o : THf t n) : t.fits n = true := by
 have := o.le; have := o.sz
 simp [SetTable.fits,SetTable.fill,o.d,o.sz,o.le]
theorem THf.ris {t : SetTable} {n : Nat} (o : THf t n) : t.place.toList.Nodup := o.r.imp fun h => Nat.ne_of_lt h
theorem THf.room {t : SetTable} {n : Nat} (o : THf t n) : ∃ e,e <= t.mask /\ e ∉ t.place := by
 obtain ⟨e,h1,h2⟩ := pigeon (t.mask + 1) t.place.toList o.ris (fun a h => Nat.lt_succ_of_le (o.b a (by simpa using h))) (by have := o.le; have := o.sz; rw [Array.length_toList]; omega)
 exact ⟨e,by omega,by simpa using h2⟩
theorem THf.walk {t : SetTable} {n : Nat} (o : THf t n) {p : Probe} (po : POk t p) : ∃ m,m < 10 * turns t.mask /\ t.slot (steps t m p).j = .empty := by
 obtain ⟨k,_,hk⟩ := o.k
 obtain ⟨e,he,ne⟩ := o.room
 obtain ⟨m,hm,em⟩ := meets hk po he
 exact ⟨m,hm,by rw [em]; exact (slot_of o.d o.r e).1.mp ne⟩
theorem insertAt_size {α : Type} (xs : Array α) (p : Nat) (x : α) (h : p <= xs.size) : (insertAt xs p x).size = xs.size + 1 := by
 simp [insertAt]; omega
theorem insertAt_mem {α : Type} (xs : Array α) (p : Nat) (x y : α) : y ∈ insertAt xs p x ↔ y = x ∨ y ∈ xs := by
 rw [<- Array.mem_toList_iff,(insertAt_perm xs p x).mem_iff]; simp [or_comm]
theorem THf.put {t : SetTable} {n j : Nat} (o : THf t n) (ne : j ∉ t.place) (l : j <= t.mask) (f : n + 1 <= t.mask) : THf (t.put j).1 (n + 1) /\ (t.put j).2 = below t.place j /\ (t.put j).1.led = t.led /\ (t.put j).1.plain = t.plain /\ (t.put j).1.mask = t.mask := by
 have hd : (t.put j).1.dummies = #[] := by unfold SetTable.put; simp [o.d,has]
 refine ⟨⟨o.k,hd,?_,Ris.put o.r ne,fun a h => ?_,f⟩,rfl,rfl,rfl,rfl⟩
 ·show (insertAt t.place _ j).size = _
  rw [insertAt_size _ _ _ (below_le o.r j),o.sz]
 ·rcases (insertAt_mem _ _ _ _).mp h with rfl | h
  ·exact l
  ·exact o.b a h
theorem fm_len (l : List (Option Nat)) : (∀ o ∈ l,o ≠ none) -> (l.filterMap id).length = l.length := by
 induction l with
 | nil => intro _; rfl
 | cons a l ih =>
  intro h
  cases a with
  | none => exact absurd rfl (h none (by simp))
  | some c => simp [ih fun o ho => h o (by simp [ho])]
theorem fm_set (c : Nat) (l : List (Option Nat)) : ∀ j : Nat,l[j]? = some none -> ((l.set j (some c)).filterMap id).Perm (c :: l.filterMap id) := by
 induction l with
 | nil => intro j h; simp at h
 | cons a l ih =>
  intro j h
  cases j with
  | zero => simp at h; subst h; simp
  | succ j =>
   simp at h
   cases a with
   | none => simpa using ih j h
   | some b => simpa using ((ih j h).cons b).trans (List.Perm.swap c b _)
def Own (mask cnt : Nat) (owner : Array (Option Nat)) : Prop := owner.size = mask + 1 /\ (owner.toList.filterMap id).Perm (List.range cnt)
theorem getD_none {owner : Array (Option Nat)} {j : Nat} (h : (owner.getD j (some 0)).isNone = true) : j < owner.size /\ owner[j]? = some none := by
 by_cases l : j < owner.size
 ·refine ⟨l,?_⟩
  rw [Array.getElem?_eq_getElem l]
  simp [Array.getD,l] at h
  rw [h]
 ·simp [Array.getD,l] at h
theorem Own.free {mask k cnt : Nat} {owner : Array (Option Nat)} (hk : mask + 1 = 2 ^ k) (o : Own mask cnt owner) (l : cnt <= mask) (h : Int) :
  ∃ j,layClean.free mask owner (turns mask) (bits h % (mask + 1)) (bits h) = some j /\ j < owner.size /\ owner[j]? = some none := by
 have ex : ∃ e,e <= mask /\ owner[e]? = some none := Classical.byContradiction fun c => by
  have := fm_len owner.toList fun a ha en => by
   subst en
   obtain ⟨e,he⟩ := List.mem_iff_getElem?.mp ha
   rw [Array.getElem?_toList] at he
   exact c ⟨e,by have := (Array.getElem?_eq_some_iff.mp he).1; have := o.1; omega,he⟩
  rw [o.2.length_eq,List.length_range,Array.length_toList,o.1] at this
  omega
 obtain ⟨e,he,ee⟩ := ex
 obtain ⟨m,hm,em⟩ := lps_all (i := bits h % (mask + 1)) (pt := bits h) hk (by unfold bits; omega) he
 have le : e < owner.size := by have := o.1; omega
 obtain ⟨j,e1,e2⟩ := free_ok (k := k) owner (m + 1) (turns mask) (bits h % (mask + 1)) (bits h) (by unfold turns; omega) (by
  rw [em]; rw [Array.getElem?_eq_getElem le] at ee; injection ee with ee; simp [Array.getD,le,ee])
 exact ⟨j,e1,getD_none e2⟩
theorem layClean_ok {mask k : Nat} (hk : mask + 1 = 2 ^ k) (hs : Array Int) (l : hs.size <= mask + 1) : ∃ owner,layClean mask hs = some owner /\ Own mask hs.size owner := by
 have key : ∀ (xs : List Int) (owner : Array (Option Nat)) (cnt : Nat),Own mask cnt owner -> cnt + xs.length <= mask + 1 ->
   ∃ ow,xs.foldl (fun acc h => do
    let (owner,k) <- acc
    let j <- layClean.free mask owner (turns mask) (bits h % (mask + 1)) (bits h)
    pure (owner.setIfInBounds j (some k),k + 1)) (some (owner,cnt)) = some (ow,cnt + xs.length) /\ Own mask (cnt + xs.length) ow := by
  intro xs
  induction xs with
  | nil => intro owner cnt o _; exact ⟨owner,rfl,o⟩
  | cons x xs ih =>
   intro owner cnt o l
   simp only [List.length_cons] at l
   obtain ⟨j,e,lt,ej⟩ := o.free hk (by omega) x
   obtain ⟨ow,e2,o2⟩ := ih (owner.setIfInBounds j (some cnt)) (cnt + 1) ⟨by simpa using o.1,by
    rw [Array.toList_setIfInBounds,List.range_succ]
    exact (fm_set cnt owner.toList j (by rw [Array.getElem?_toList]; exact ej)).trans ((o.2.cons cnt).trans (List.perm_append_singleton cnt _).symm)⟩ (by omega)
   refine ⟨ow,?_,by rw [List.length_cons,show cnt + (xs.length + 1) = cnt + 1 + xs.length by omega]; exact o2⟩
   rw [List.length_cons,show cnt + (xs.length + 1) = cnt + 1 + xs.length by omega,<- e2,List.foldl_cons]
   congr 1
   simp [e]
 obtain ⟨ow,e,o⟩ := key hs.toList (Array.replicate (mask + 1) none) 0 ⟨by simp,by
  rw [Array.toList_replicate]
  have : ∀ n : Nat,(List.replicate n (none : Option Nat)).filterMap id = [] := fun n => by induction n with | zero => rfl | succ n ih => simpa [List.replicate_succ] using ih
  rw [this]; exact .nil⟩ (by simpa using l)
 refine ⟨ow,?_,by simpa using o⟩
 unfold layClean
 rw [<- Array.foldl_toList,e]
 rfl
theorem live_two (owner : Array (Option Nat)) : ((List.range owner.size).filterMap fun j => (owner.getD j none).map (j,·)).map (·.2) = owner.toList.filterMap id := by
 rw [List.map_filterMap]
 have : owner.toList = (List.range owner.size).map fun j => owner.getD j none := by
  refine List.ext_getElem (by simp) fun i h1 h2 => ?_
  simp at h1
  simp [Array.getD,h1]
 rw [this,List.filterMap_map]
 congr 1
 funext j
 show Option.map (·.2) ((owner.getD j none).map (j,·)) = owner.getD j none
 cases owner.getD j none <;> rfl
theorem live_one (owner : Array (Option Nat)) (n : Nat) : ((List.range n).filterMap fun j => (owner.getD j none).map (j,·)).map (·.1) = (List.range n).filter fun j => (owner.getD j none).isSome := by
 rw [List.map_filterMap,<- List.filterMap_eq_filter]
 congr 1
 funext j
 cases h : owner.getD j none <;> simp [h,Option.guard]
theorem laid_ok {mask k fi mo : Nat} {led plain : Bool} (hk : mask + 1 = 2 ^ k) (h3 : 3 <= k) (hs : Array Int) (l : hs.size <= mask) : ∃ t order,SetTable.laid mask fi mo led plain hs = some (t,order) /\ THf t hs.size /\ order.toList.Perm (List.range hs.size) /\ t.led = led /\ t.plain = plain /\ t.mask = mask := by
 obtain ⟨ow,e,o⟩ := layClean_ok hk hs (by omega)
 unfold laid
 rw [e]
 refine ⟨_,_,rfl,⟨⟨k,h3,hk⟩,rfl,?_,?_,fun a h => ?_,l⟩,?_,rfl,rfl,rfl⟩
 ·simp only [List.size_toArray,List.length_map]
  rw [<- o.1]
  have := congrArg List.length (live_two ow)
  rw [List.length_map,o.2.length_eq,List.length_range] at this
  exact this
 ·show List.Pairwise _ _
  simp only
  rw [live_one]
  exact List.pairwise_lt_range.filter _
 ·simp only [List.mem_toArray] at h
  rw [live_one] at h
  have := List.mem_range.mp (List.mem_filter.mp h).1; simp only; omega
 ·simp only
  rw [<- o.1,live_two]
  exact o.2
theorem sizeAbove_ok : ∀ (fuel size n : Nat),(∃ k,3 <= k /\ size = 2 ^ k) -> n < size * 2 ^ fuel -> n < sizeAbove.go n fuel size /\ ∃ k,3 <= k /\ sizeAbove.go n fuel size = 2 ^ k
 | 0,size,n,hk,h => ⟨by simpa [sizeAbove.go] using h,hk⟩
 | fuel + 1,size,n,⟨k,h3,e⟩,h => by
  unfold sizeAbove.go
  split
  ·exact sizeAbove_ok fuel (size * 2) n ⟨k + 1,by omega,by rw [e,Nat.pow_succ]⟩ (by rw [Nat.pow_succ] at h; rw [Nat.mul_assoc,Nat.mul_comm 2]; exact h)
  ·exact ⟨by omega,k,h3,e⟩
theorem sizeAbove_le : ∀ (fuel size n : Nat),sizeAbove.go n fuel size <= max size (2 * n)
 | 0,size,n => by simp only [sizeAbove.go]; omega
 | fuel + 1,size,n => by
  unfold sizeAbove.go
  split
  ·have := sizeAbove_le fuel (size * 2) n; omega
  ·omega
theorem relaid_ok {t : SetTable} {n : Nat} (hs : Array Int) (hn : hs.size = n) (n0 : 0 < n) (nb : n <= 50000) : ∃ t' order,t.relaid hs (grown n) = some (t',order) /\ TOk t' n /\ order.toList.Perm (List.range n) /\ t'.led = t.led /\ t'.plain = t.plain /\ t'.mask <= 8 * n + 7 := by
 have hg : grown n = n * 4 := by unfold grown; rw [if_neg (by omega)]
 obtain ⟨h1,k,h3,h2⟩ := sizeAbove_ok 64 8 (n * 4) ⟨3,Nat.le_refl _,rfl⟩ (by omega)
 have hs1 : sizeAbove (n * 4) = 2 ^ k := h2
 have hm : sizeAbove (n * 4) - 1 + 1 = 2 ^ k := by have := Nat.two_pow_pos k; omega
 have gt : n * 4 < sizeAbove (n * 4) := h1
 obtain ⟨t',order,e,o,p,a,b,m⟩ := laid_ok (fi := t.finger) (mo := t.movedTo (sizeAbove (n * 4) - 1)) (led := t.led) (plain := t.plain) hm h3 hs (by omega)
 rw [hn] at o p
 exact ⟨t',order,by unfold relaid; rw [hg]; exact e,⟨o,by rw [m]; omega⟩,p,a,b,by rw [m]; have : sizeAbove (n * 4) <= max 8 (2 * (n * 4)) := sizeAbove_le 64 8 (n * 4); omega⟩
end Tb
set_option Elab.async false
set_option linter.all false
set_option maxRecDepth 100000
set_option maxHeartbeats 4000000
namespace Tb
open PySem PySem.SetTable
abbrev setO (es : Array (Int × Value)) (ep : Nat) (t : SetTable) : Obj := { cls := .type "set",dict := none,data := .set es ep t }
section
variable {prog : Program} {w : World} {A : Around} {E : Value -> Shared -> Prop} {s : Shared} {S : Addr}
def zbQ (w : World) : Bool := !w.params.followText "set-order"
theorem put_at {h : Heap} {es es' : Array (Int × Value)} {ep : Nat} {t t' : SetTable} (ho : h.get? S = some (setO es ep t)) : (h.update S (Obj.putSet es' t')).get? S = some (setO es' (ep + 1) t') :=
 Heap.get?_update_self (Obj.putSet es' t') ho rfl
end
end Tb
set_option Elab.async false
set_option linter.all false
set_option maxRecDepth 100000
set_option maxHeartbeats 4000000
namespace Tb
open PySem PySem.SetTable
def byT (w : World) : Bool := w.params.followText "set-order"
theorem pick_perm {α : Type} (next : Nat -> Nat) : ∀ (fuel k : Nat) (left : List α) (out : Array α),left.length = fuel -> (pickOrder.go next fuel k left out).toList.Perm (out.toList ++ left)
 | 0,k,left,out,h => by have := List.length_eq_zero_iff.mp h; subst this; simp [pickOrder.go]
 | fuel + 1,k,left,out,h => by
  have lt : next k % left.length < left.length := Nat.mod_lt _ (by omega)
  unfold pickOrder.go
  rw [List.getElem?_eq_getElem lt]
  refine (pick_perm next fuel (k + 1) _ _ (by rw [List.length_eraseIdx_of_lt lt]; omega)).trans ?_
  rw [Array.toList_push,List.append_assoc]
  refine List.Perm.append_left _ ?_
  have e : left = left.take (next k % left.length) ++ left[next k % left.length] :: left.drop (next k % left.length + 1) := by
   rw [List.getElem_cons_drop,List.take_append_drop]
  rw [List.eraseIdx_eq_take_drop_succ]
  conv => rhs; rw [e]
  rw [List.singleton_append]
  exact List.perm_middle.symm
theorem pickOrder_perm {α : Type} (next : Nat -> Nat) (xs : Array α) : (pickOrder next xs).toList.Perm xs.toList := by
 have := pick_perm next xs.size 0 xs.toList #[] (by simp)
 simpa [pickOrder] using this
abbrev itO (S ep n slot i : Nat) : Obj := { cls := .type "set_iterator",data := .fields #[.int slot 0,.int i 0,.ref S,.int n 0,.int ep 0] }
def ordOf (w : World) (S : Addr) (ep : Nat) (es : Array (Int × Value)) : Array (Int × Value) := if byT w then pickOrder (w.params.setOrder S ep) es else es
theorem ord_perm (w : World) (S : Addr) (ep : Nat) (es : Array (Int × Value)) : (ordOf w S ep es).toList.Perm es.toList := by
 unfold ordOf; split
 ·exact pickOrder_perm _ _
 ·exact .refl _
theorem ord_size (w : World) (S : Addr) (ep : Nat) (es : Array (Int × Value)) : (ordOf w S ep es).size = es.size := by
 have := (ord_perm w S ep es).length_eq; simpa using this
def zb7 (w : World) (t : SetTable) : Nat -> Nat
 | 0 => 0
 | i + 1 => if byT w then 0 else t.place.getD i 0 + 1
structure Sat (w : World) (h : Heap) (S : Addr) (es : Array (Int × Value)) (ep : Nat) (t : SetTable) : Prop where
 o : h.get? S = some (setO es ep t)
 k : TOk t es.size
 p : t.plain = true
 l : t.led = zbQ w
theorem Sat.mv {w : World} {h g : Heap} {S : Addr} {es : Array (Int × Value)} {ep : Nat} {t : SetTable} (a : Sat w h S es ep t) (k : ∀ o,h.get? S = some o -> g.get? S = some o) : Sat w g S es ep t := ⟨k _ a.o,a.k,a.p,a.l⟩
section
open PySem.F
theorem e_iter : entryFor table "set.__iter__" = some Builtin.«frozenset.__iter__» := entryFor_alias (id' := "frozenset.__iter__") (by kernel_rfl) rfl (by decide +kernel) (by kernel_rfl)
theorem s_next : Slot "set_iterator" "__next__" "set_iterator.__next__" := .of (owner := "set_iterator") (n := "__next__") (by rw [typeLookup_type,builtinLookup_eq_fast]; kernel_rfl) (by decide +kernel) (by decide +kernel) (by decide +kernel) (.inl (by decide +kernel)) (by rw [isSubtype_type]; kernel_rfl)
theorem e_next : entryFor table "set_iterator.__next__" = some Builtin.«set_iterator.__next__» := entryFor_of_tree (by kernel_rfl)
theorem w_itr : Manifest.owners.lookup (String.ofList ['r','o','t','a','r','e','t','i','_','t','e','s'].reverse) = some Manifest.sig_set_iterator := by kernel_rfl
theorem a_next (a : Value) : argsOk "set_iterator.__next__" ⟨[a],[]⟩ := by unfold argsOk; rw [signature?_of (id := "set_iterator.__next__") (n := ['_','_','t','x','e','n','_','_']) (o := ['r','o','t','a','r','e','t','i','_','t','e','s']) (by kernel_rfl) w_itr]; kernel_rfl
theorem s_self : Slot "set_iterator" "__iter__" "set_iterator.__iter__" := .of (owner := "set_iterator") (n := "__iter__") (by rw [typeLookup_type,builtinLookup_eq_fast]; kernel_rfl) (by decide +kernel) (by decide +kernel) (by decide +kernel) (.inl (by decide +kernel)) (by rw [isSubtype_type]; kernel_rfl)
theorem e_self : entryFor table "set_iterator.__iter__" = some Builtin.«dict_keyiterator.__iter__» := entryFor_alias (id' := "dict_keyiterator.__iter__") (by kernel_rfl) rfl (by decide +kernel) (by kernel_rfl)
theorem a_self (a : Value) : argsOk "set_iterator.__iter__" ⟨[a],[]⟩ := by unfold argsOk; rw [signature?_of (id := "set_iterator.__iter__") (n := ['_','_','r','e','t','i','_','_']) (o := ['r','o','t','a','r','e','t','i','_','t','e','s']) (by kernel_rfl) w_itr]; kernel_rfl
end
section
variable {prog : Program} {w : World} {A : Around} {E : Value -> Shared -> Prop} {s : Shared} {S it : Addr} {es : Array (Int × Value)} {ep i : Nat} {t : SetTable}
theorem entries_of {Q : Array (Int × Value) -> Shared -> Prop} (a : Sat w s.heap S es ep t) (q : Q es s) : wpAny (model prog w) A (setEntries S) Q E s := wpAny_setEntries_of a.o rfl a.k.fits q
theorem set_iter {Q : Value -> Shared -> Prop} (a : Sat w s.heap S es ep t) (q : Q (.ref s.heap.objs.size) { s with heap := s.heap.push (itO S ep es.size 0 0) }) : wpAny (model prog w) A (pyIter (.ref S)) Q E s := by
 have ty : s.TypeIs (.ref S) "set" := ⟨_,a.o,rfl⟩
 refine wpAny_pyIter_slot ty F.slot_set_iter (wpAny_call_entry F.slot_set_iter ty e_iter ?body (F.args_set_iter_1 _))
 unfold Builtin.«frozenset.__iter__» Builtin.Frozenset.slot0 Builtin.Frozenset.sizeOf setDrawn setsByText setEpoch
 refine wpAny_bind (wpAny_bind (wpAny_pure (wpAny_pure ?_)))
 refine wpAny_bind (wpAny_bind (entries_of a (wpAny_pure ?_)))
 refine wpAny_bind (wpAny_bind (wpAny_setState_of a.o rfl a.k.fits (wpAny_bind (wpAny_bind (wpAny_askSetting (wpAny_pure (wpAny_pure ?_)))))))
 refine wpAny_ite_split (fun h => absurd h ?_) fun _ => ?_
 ·intro c
  have : (!byT w && (!t.plain && decide (es.size > 1))) = true := c
  rw [a.p] at this; simp at this
 refine wpAny_bind (wpAny_pure (wpAny_bind (wpAny_bind (wpAny_setState_of a.o rfl a.k.fits (wpAny_pure ?_)))))
 exact wpAny_bind (wpAny_newObj_type (wpAny_pure ⟨_,rfl,"set_iterator",_,⟨_,Heap.get?_push_size _ rfl,rfl⟩,s_next.lookup,by simpa [rawInt,itO] using q⟩))
theorem led_ok {Q : Unit -> Shared -> Prop} (l : t.led = true) {m : Sem Unit} (e : m = (if (!t.led && !es.isEmpty) = true then unsupported "set:maker-not-led" else pure ())) (q : Q () s) : wpAny (model prog w) A m Q E s := by
 rw [e,l,if_neg (by simp)]; exact wpAny_pure q
theorem next_of {Q : Option (Value × Nat) -> Shared -> Prop} (hi : i <= es.size) (a : Sat w s.heap S es ep t) (q : Q ((ordOf w S ep es)[i]?.map fun e => (e.2,zb7 w t (i + 1))) s) : wpAny (model prog w) A (setNext S (zb7 w t i) i ep) Q E s := by
 unfold setNext
 refine wpAny_bind (wpAny_setState_of a.o rfl a.k.fits ?_)
 dsimp only
 refine wpAny_bind (wpAny_bind (m := ask) (wpAny_askSetting (wpAny_pure ?_)))
 dsimp only
 cases hb : byT w with
 | true =>
  have hb' : (model prog w).w.params.followText "set-order" = true := hb
  simp only [hb',if_true,bne_self_eq_false,Bool.false_eq_true,if_false]
  refine wpAny_bind ?_
  unfold setWalk
  refine wpAny_bind (wpAny_setState_of a.o rfl a.k.fits ?_)
  dsimp only
  refine wpAny_bind (wpAny_bind (m := ask) (wpAny_askSetting (wpAny_pure ?_)))
  dsimp only
  simp only [hb',if_true]
  refine wpAny_bind (wpAny_askSetting (wpAny_pure (wpAny_pure ?_)))
  have e0 : zb7 w t i = zb7 w t (i + 1) := by cases i <;> simp [zb7,hb]
  rw [e0]
  simp only [ordOf,hb,if_true] at q
  exact q
 | false =>
  have hb' : (model prog w).w.params.followText "set-order" = false := hb
  simp only [hb',Bool.false_eq_true,if_false]
  refine wpAny_ite_split (fun h => absurd (show (!t.plain && decide (es.size > 1)) = true from h) (by rw [a.p]; simp)) fun _ => ?_
  refine wpAny_bind (led_ok (es := es) (t := t) (by rw [a.l]; unfold zbQ; rw [show w.params.followText "set-order" = false from hb]; rfl) rfl ?_)
  have sz := a.k.sz
  have eb : below t.place (zb7 w t i) = i := by
   cases i with
   | zero => simp [zb7,below_zero a.k.r]
   | succ i =>
    have lt : i < t.place.size := by omega
    simp only [zb7,hb,Bool.false_eq_true,if_false]
    rw [show t.place.getD i 0 = t.place[i] by simp [Array.getD,lt],below_next a.k.r (Array.getElem?_eq_getElem lt)]
  refine wpAny_pure ?_
  rw [eb]
  simp only [ordOf,hb,Bool.false_eq_true,if_false] at q
  by_cases lt : i < es.size
  ·have lt2 : i < t.place.size := by omega
   simp only [Array.getElem?_eq_getElem lt,Array.getElem?_eq_getElem lt2]
   simpa [Array.getElem?_eq_getElem lt,zb7,hb,Array.getD,lt2] using q
  ·simpa [Array.getElem?_eq_none (Nat.le_of_not_lt lt)] using q
theorem set_next {Q : Option Value -> Shared -> Prop} (hi : i <= es.size) (ei : s.heap.get? it = some (itO S ep es.size (zb7 w t i) i)) (ne : S ≠ it) (a : Sat w s.heap S es ep t)
  (there : ∀ h' v,(ordOf w S ep es)[i]?.map (·.2) = some v -> h'.get? it = some (itO S ep es.size (zb7 w t (i + 1)) (i + 1)) -> Heap.SameBut it s.heap h' -> Q (some v) { s with heap := h' })
  (out : es.size <= i -> ∀ h',Heap.ExtBut it s.heap h' -> Q none { s with heap := h' }) (hh : A.handled = none) : wpAny (model prog w) A (pyNext (.ref it)) Q E s := by
 have ty : s.TypeIs (.ref it) "set_iterator" := ⟨_,ei,rfl⟩
 unfold pyNext
 refine wpAny_bind (wpAny_attempt (wpAny_callSpecial?_slot (name := Str.ofString "__next__") ty s_next (wpAny_call_entry s_next ty e_next ?body (a_next _))))
 unfold Builtin.«set_iterator.__next__»
 refine wpAny_bind (m := slotArgs _ _ _) (wpAny_pure (wpAny_bind (wpAny_fieldsOf ei rfl ?_)))
 change wpAny _ _ (setEntries S >>= fun _ => _) _ _ s
 refine wpAny_bind (entries_of a ?_)
 rw [if_neg (by simp)]
 simp only [Int.toNat_natCast]
 refine wpAny_bind (next_of hi a ?_)
 by_cases lt : i < es.size
 ·have lo : i < (ordOf w S ep es).size := by rw [ord_size]; exact lt
  simp only [Array.getElem?_eq_getElem lo,Option.map_some]
  refine wpAny_bind (wpAny_setField ei rfl (by simp) ?_)
  have e1 := Heap.get?_update_self (Obj.mapFields (·.setIfInBounds 0 (rawInt (zb7 w t (i + 1))))) ei rfl
  refine wpAny_bind (wpAny_setField (s := { s with heap := _ }) e1 rfl (by simp [Obj.mapFields]) ?_)
  have e2 := Heap.get?_update_self (Obj.mapFields (·.setIfInBounds 1 (rawInt ((i : Int) + 1)))) e1 rfl
  refine wpAny_pure ⟨_,rfl,wpAny_pure (there _ _ (by simp [lo]) ?_ ((Heap.SameBut.update ..).trans (Heap.SameBut.update ..)))⟩
  rw [e2]; simp [Obj.mapFields,rawInt,itO]
 ·have ge : es.size <= i := by omega
  simp only [Array.getElem?_eq_none (show (ordOf w S ep es).size <= i by rw [ord_size]; exact ge),Option.map_none]
  refine wpAny_bind (wpAny_setField ei rfl (by simp) ?_)
  change wpAny _ _ (newExc (.type "StopIteration") [] >>= fun _ => _) _ _ _
  simp only [newExc,newTuple,raiseNew]
  refine wpAny_bind (wpAny_bind (wpAny_newObj_type (wpAny_bind (m := firstArgMember _ _) (wpAny_of_eq (a := Value.none) (by first | rfl | (simp only [firstArgMember]; rfl)) (wpAny_newObj_type ?_ (by size_fits)))) (by size_fits)))
  refine wpAny_bind (wpAny_handled ?_)
  rw [show A.in1.handled = none from hh]
  refine wpAny_bind (wpAny_pure (wpAny_throw ?_))
  refine wpAny_bind (wpAny_isInstance (T := "StopIteration") (b := true) ⟨_,Heap.get?_push_size _ rfl,rfl⟩ isSubtype_stop ?fin)
  exact wpAny_pure (out ge _ (((Heap.SameBut.update ..).extBut.push _).push _))
theorem self_of {Q : Value -> Shared -> Prop} {n sl j : Nat} (ei : s.heap.get? it = some (itO S ep n sl j)) (q : Q (.ref it) s) : wpAny (model prog w) A (pyIter (.ref it)) Q E s := by
 have ty : s.TypeIs (.ref it) "set_iterator" := ⟨_,ei,rfl⟩
 refine wpAny_pyIter_slot ty s_self (wpAny_call_entry s_self ty e_self ?_ (a_self _))
 exact wpAny_pure ⟨_,rfl,"set_iterator",_,ty,s_next.lookup,q⟩
theorem set_walks (hh : A.handled = none) (I S : Addr) (ne : S ≠ I) (es : Array (Int × Value)) (ep : Nat) (t : SetTable) :
  Walks prog w A I [I,S] [I] es.size (fun i v => (ordOf w S ep es)[i]?.map (·.2) = some v) (fun i h => i <= es.size /\ h.get? I = some (itO S ep es.size (zb7 w t i) i) /\ Sat w h S es ep t) where
 sub := fun b hb => by rcases List.mem_singleton.mp hb with rfl; exact List.mem_cons_self
 frame := fun _ _ _ st k => ⟨st.1,k I List.mem_cons_self _ st.2.1,st.2.2.mv fun o e => k S (List.mem_cons_of_mem _ List.mem_cons_self) o e⟩
 item := fun i s Q E lt st q => set_next st.1 st.2.1 ne st.2.2 (fun h' v ev ki sb => q v h' s.toks ev ⟨lt,ki,st.2.2.mv fun o e => (sb.2 S ne).trans e⟩ fun b o nb e => (sb.2 b fun z => nb (by rw [z]; exact List.mem_cons_self)).trans e) (fun ge => absurd lt (by omega)) hh
 done := fun s Q E st q => set_next st.1 st.2.1 ne st.2.2 (fun h' v ev => by rw [Array.getElem?_eq_none (by rw [ord_size]; exact Nat.le_refl _)] at ev; cases ev) (fun _ h' x => q h' s.toks fun b o nb e => x b o (fun z => nb (by rw [z]; exact List.mem_cons_self)) e) hh
 self := fun _ _ _ _ st q => self_of st.2.1 q
end
end Tb
set_option Elab.async false
set_option linter.all false
set_option maxRecDepth 100000
set_option maxHeartbeats 4000000
namespace Tb
open PySem PySem.SetTable PySem.Spec
section
open PySem.F
theorem e_upd : entryFor table "set.update.loop" = some Builtin.«set.update.loop» := entryFor_of_tree (by kernel_rfl)
theorem p_upd : plainId "set.update.loop" = true := by decide +kernel
end
section
variable {prog : Program} {w : World} {A : Around} {E : Value -> Shared -> Prop} {R : Result -> Shared -> Prop} {s : Shared} {S I l : Addr} {fp wr : List Addr} {n : Nat} {P : Nat -> Value -> Prop} {St : Nat -> Heap -> Prop} {OK : Heap -> Prop} {T : String}
theorem new_code (a : Value) {Q1 : Value -> Shared -> Prop} (q : Q1 (.ref s.heap.objs.size) { s with heap := s.heap.push (setO #[] 0 (.fresh 0 0 (zbQ w))) }) :
  codeAny (model prog w) A (.call (.builtin "set.__new__") ⟨[.type "set",a],[]⟩) (wants Q1 E) s := by
 refine codeAny_of_tree ?_
 change wpAny _ A.in1 (checkBuiltinCall "set.__new__" ⟨[.type "set",a],[]⟩ >>= fun _ => again (.builtin "set.__new__" ⟨[.type "set",a],[]⟩)) _ _ s
 refine wpAny_bind (wpAny_of_eq (F.newCall_set_1 a) (wpAny_pure ⟨plainId_quiet F.plain_set_new _,codeAny_builtin F.entry_set_new ?_⟩))
 rw [Around.under_plainId F.plain_set_new _]
 unfold Builtin.«set.__new__» Builtin.Frozenset.newClass
 have sub := sub_set_self
 obtain ⟨hp,g,d,tk,os⟩ := s
 dsimp only at q ⊢
 wp_walk
 refine wpAny_askSetting (wpAny_pure ?_)
 dsimp only; simp only [newObj]
 exact wpAny_bind (wpAny_alloc (wpAny_pure (wpAny_pure q)))
structure Seq (prog : Program) (w : World) (T : String) (l : Addr) (n : Nat) (P : Nat -> Value -> Prop) (OK : Heap -> Prop) : Prop where
 ty : ∀ s : Shared,OK s.heap -> s.TypeIs (.ref l) T
 lt : ∀ h : Heap,OK h -> l < h.objs.size
 keep : ∀ h h' : Heap,OK h -> (∀ o,h.get? l = some o -> h'.get? l = some o) -> OK h'
 n1 : isSubtype (.type T) (.type "set") = pure false
 n2 : isSubtype (.type T) (.type "frozenset") = pure false
 n3 : (Value.type T == Value.type "dict") = false
 iter : ∀ (A : Around) (s : Shared),A.handled = none -> OK s.heap -> ∃ (oI : Obj) (St : Nat -> Heap -> Prop),(∀ (E : Value -> Shared -> Prop) (Q : Value -> Shared -> Prop),Q (.ref s.heap.objs.size) { s with heap := s.heap.push oI } -> wpAny (model prog w) A (pyIter (.ref l)) Q E s) /\
  Walks prog w A s.heap.objs.size [s.heap.objs.size,l] [s.heap.objs.size] n P St /\ St 0 (s.heap.push oI)
theorem seq_list {items : Array Value} : Seq prog w "list" l items.size (fun i v => items[i]? = some v) (fun h => h.IsList l items) where
 ty := fun _ h => h.typeIs
 lt := fun _ h => let ⟨_,e,_⟩ := h; Heap.lt_size e
 keep := fun _ _ h k => h.at k
 n1 := F.sub_list_set
 n2 := F.sub_list_frozenset
 n3 := by decide
 iter := fun A s hh ok => ⟨_,_,(fun _ _ q => wpAny_pyIter_list ok q),Walks.list hh _ l (Nat.ne_of_lt (let ⟨_,e,_⟩ := ok; Heap.lt_size e)) items,⟨⟨_,Heap.get?_push_size _ rfl,rfl,rfl⟩,ok.push _⟩⟩
theorem seq_tuple {items : Array Value} : Seq prog w "tuple" l items.size (fun i v => items[i]? = some v) (fun h => h.IsTuple l items) where
 ty := fun _ h => h.typeIs
 lt := fun _ h => let ⟨_,e,_⟩ := h; Heap.lt_size e
 keep := fun _ _ h k => h.at k
 n1 := by rw [isSubtype_type]; kernel_rfl
 n2 := by rw [isSubtype_type]; kernel_rfl
 n3 := by decide
 iter := fun A s hh ok => ⟨_,_,(fun _ _ q => wpAny_pyIter_tuple ok q),Walks.tuple hh _ l (Nat.ne_of_lt (let ⟨_,e,_⟩ := ok; Heap.lt_size e)) items,⟨⟨_,Heap.get?_push_size _ rfl,rfl,rfl⟩,ok.push _⟩⟩
end
end Tb
set_option Elab.async false
set_option linter.all false
set_option maxRecDepth 100000
set_option maxHeartbeats 4000000
namespace L2
open PySem PySem.Spec PyProof.Rows Tb
section
variable {prog : Program} {w : World} {A : Around} {E : Value -> Shared -> Prop} {s : Shared} {S d : Addr} {es : Array (Int × Value)} {ep : Nat} {t : SetTable} {Q : Bool -> Shared -> Prop}
theorem hint_set (ty : s.TypeIs (.ref S) "set") (q : Q false s) : wpAny (model prog w) A (Builtin.List.listLengthHint (.ref S)) Q E s := by
 unfold Builtin.List.listLengthHint
 refine wpAny_bind (wpAny_specialOf ty PySem.F.slot_set_len.lookup ?_)
 generalize hi : ("set.__len__" : String) = i0
 wp_delta
 rw [show splitId i0 = some ("set","__len__") from by subst hi; decide +kernel]
 subst hi
 refine wpAny_bind (wpAny_isInstance (T := "set") (b := true) ty (by rw [isSubtype_type]; kernel_rfl) (wpAny_ite_split (fun hb => absurd hb (by decide)) fun _ => ?_))
 exact wpAny_ite_split (fun _ => wpAny_bind (wpAny_typeOf ty (wpAny_pure q))) fun hb => absurd (by decide +kernel) hb
theorem set_src : PySem.W.KdlSrc prog w "set" S S es.size (fun i v => (ordOf w S ep es)[i]?.map (·.2) = some v) (fun h => Sat w h S es ep t) where
 type := fun _ r => ⟨_,r.o,rfl⟩
 there := fun _ r => ⟨Heap.lt_size r.o,Heap.lt_size r.o⟩
 keep := fun _ _ r k => r.mv fun o e => k S (.inl rfl) o e
 notList := by decide
 notTuple := by decide
 hint := fun _ _ s _ r q => hint_set ⟨_,r.o,rfl⟩ q
 iter := fun _ s hh r => ⟨_,_,(fun _ _ q => set_iter r q),set_walks hh _ S (Nat.ne_of_lt (Heap.lt_size r.o)) es ep t,⟨Nat.zero_le _,Heap.get?_push_size _ rfl,r.mv fun o e => Heap.get?_push_of_some _ e⟩⟩
end
section
variable {X : Cx} {e : Expr} {p p2 pos pos2 : Pos} {te : TE} {x : Str} {id : String} {r : V -> Hp -> VK -> Prop}
def SetR (X : Cx) (id : String) (r : V -> Hp -> VK -> Prop) : Prop :=
 ∀ (pins : List (Addr × Obj)) (s : Shared) (σ : St) (H : Hp) (v : V) (u : Value) (Q : VK),Inv X pins σ H s -> zaG v u -> r v H Q ->
  wpAny (model X.prog X.w) X.A (call (.type "set") [u]) (fun c s1 => wpAny (model X.prog X.w) X.A (call (.builtin id) [c]) (EP X pins σ Q) X.xe s1) X.xe s
theorem boot_set : bootBuiltins "set" = some (.type "set") := by rfl
theorem pe_set2 (hc : SetR X id r) (hm : X.mg x = none) (hv : bootBuiltins x = some (.builtin id)) (hs : X.mg "set" = none) (ha : PE X e te) (hg : Gl X x) (hg2 : Gl X "set") (hn : x ≠ "__name__") (hdb : (x == ("__debug__" : Str)) = false)
  (e1 : starEach [e] X.env = [(false,eval e X.env)] := by rfl) (e2 : starEach [.Call (.Name "set" p2) [e] [] pos2] X.env = [(false,eval (.Call (.Name "set" p2) [e] [] pos2) X.env)] := by rfl) :
  PE X (.Call (.Name x p) [.Call (.Name "set" p2) [e] [] pos2] [] pos) (fun σ H Q => te σ H fun v H1 => r v H1 Q) := by
 intro pins s σ H Q I h
 refine wpAny_Call_Name_kw (ld_blt I hg hm hv ?_ hn hdb)
 refine PyProof.Rows.callWith_builtin1 ?_ e2 rfl
 rw [e2]
 change wpAny _ _ (spliced [(false,eval (.Call (.Name "set" p2) [e] [] pos2) X.env)]) _ _ s
 refine Calls.spliced_cons ?_
 refine thn (Q := fun c s1 => wpAny (model X.prog X.w) X.A (call (.builtin id) [c]) (EP X pins σ Q) X.xe s1) ?_ fun c s1 q1 => Calls.spliced_nil q1
 refine wpAny_Call_Name_kw (ld_blt I hg2 hs boot_set ?_ (by decide) (by decide))
 refine PyProof.Rows.callWith_type1 ?_ e1 rfl
 rw [e1]
 change wpAny _ _ (spliced [(false,eval e X.env)]) _ _ s
 refine Calls.spliced_cons (thn (ha pins s σ H _ I h) fun u s1 ⟨v,H1,I1,r1,q1⟩ => ?_)
 exact Calls.spliced_nil (hc pins s1 σ H1 v u Q I1 r1 q1)
end
end L2
namespace L3
open PySem PySem.Spec PyProof.Rows L2 Tb
section
variable {X : Cx} {e : Expr} {p p2 pos pos2 : Pos} {ta : TE3}
def wSt2 (f : T -> Gp -> VK3 -> Prop) (ta : TE3) : TE3 := fun τ G Q => ta τ G fun x G1 => f x G1 Q
def rSet (K : KW) (f : T -> Gp -> VK3 -> Prop) : V -> Hp -> VK -> Prop := fun v H Q => ∃ x G Q3,Den K H v x /\ HR K H G /\ f x G Q3 /\ Imp K H Q3 Q
theorem qset2 {x : Str} {id : String} {f : T -> Gp -> VK3 -> Prop} (hcl : SetR X id (rSet X.kw f)) (hm : X.mg x = none) (hv : bootBuiltins x = some (.builtin id)) (hs : X.mg "set" = none) (ha : QE X e ta) (hg : Gl X x) (hg2 : Gl X "set") (hn : x ≠ "__name__") (hdb : (x == ("__debug__" : Str)) = false)
  (e1 : starEach [e] X.env = [(false,eval e X.env)] := by rfl) (e2 : starEach [.Call (.Name "set" p2) [e] [] pos2] X.env = [(false,eval (.Call (.Name "set" p2) [e] [] pos2) X.env)] := by rfl) : QE X (.Call (.Name x p) [.Call (.Name "set" p2) [e] [] pos2] [] pos) (wSt2 f ta) :=
 (pe_set2 hcl hm hv hs ha hg hg2 hn hdb e1 e2).imp fun σ H Q ⟨τ,G,Q3,s,r,h,im⟩ => ⟨τ,G,_,s,r,h,fun x G1 v H1 h1 k1 d1 r1 => ⟨x,G1,Q3,d1,r1,h1,fun t G' v' H' q' k' d' r' => im t G' v' H' q' (k1.trans k') d' r'⟩⟩
end
end L3
set_option Elab.async false
set_option linter.all false
set_option maxRecDepth 100000
set_option maxHeartbeats 4000000
namespace Tb
open PySem PySem.SetTable L2 PyProof.Rows
def hk (w : World) (k : LK) : Int := tupH (k.map (hash1 w))
def ent (w : World) (p : LK × Addr) : Int × Value := (hk w p.1,.ref p.2)
def isI : A1 -> Bool
 | .at (.int _) => true
 | _ => false
section
variable {prog : Program} {w : World} {A : Around} {E : Value -> Shared -> Prop} {s : Shared} {S a : Addr} {k : LK}
structure SLs (w : World) (t : SetTable) (pl : Bool) (L ks : List (LK × Addr)) : Prop where
 k : TOk t L.length
 l : t.led = zbQ w
 p : pl = true -> t.plain = true
 m : t.mask <= 9900
 pm : L.Perm ks
def SL (w : World) (h : Heap) (S : Addr) (pl : Bool) (ks : List (LK × Addr)) : Prop := ∃ L ep t,h.get? S = some (setO (L.map (ent w)).toArray ep t) /\ SLs w t pl L ks
theorem SL.mv {h g : Heap} {pl : Bool} {ks : List (LK × Addr)} (r : SL w h S pl ks) (q : ∀ o,h.get? S = some o -> g.get? S = some o) : SL w g S pl ks := let ⟨L,ep,t,a,b⟩ := r; ⟨L,ep,t,q _ a,b⟩
theorem class_tup {n : Nat} {items : Array Value} {Q : Bool -> Shared -> Prop} (ht : zbl s.heap a items) (hi : ∀ v ∈ items.toList,∀ Q' : Bool -> Shared -> Prop,Q' false s -> wpAny (model prog w) A (ofAClassStatement n v) Q' E s) (h : Q false s) :
  wpAny (model prog w) A (ofAClassStatement (n + 1) (.ref a)) Q E s := by
 obtain ⟨o,j,ho,hc,hd⟩ := ht
 have hT : s.TypeIs (.ref a) "tuple" := ⟨o,ho,hc⟩
 unfold ofAClassStatement
 refine wpAny_bind (wpAny_typeOf hT ?_)
 dsimp only
 refine wpAny_bind (wpAny_pure ?_)
 simp only [Bool.not_true,Bool.false_eq_true,if_false]
 refine wpAny_bind (wpAny_seqItems ho hd ?_)
 dsimp only
 refine wpAny_bind ?_
 change wpAny _ _ (forIn items _ _) _ _ s
 rw [<- Array.forIn_toList]
 refine wpAny_forIn_list _ (fun rest r s' => r.1 = none /\ s' = s /\ ∀ v ∈ rest,v ∈ items.toList) _ ?_ ?_ _ _ ⟨rfl,rfl,fun v hv => hv⟩
 ·rintro v rest r s' ⟨hr,rfl,hall⟩
  refine wpAny_bind (hi v (hall v List.mem_cons_self) _ ?_)
  simp only [Bool.false_eq_true,if_false]
  exact wpAny_pure ⟨rfl,rfl,fun u hu' => hall u (List.mem_cons_of_mem _ hu')⟩
 ·rintro ⟨r1,r2⟩ s' ⟨hr,rfl,_⟩
  simp only at hr
  subst hr
  exact wpAny_pure h
theorem class0 {n : Nat} {x : A0} {v : Value} {Q : Bool -> Shared -> Prop} (p : x.val v) (h : Q false s) : wpAny (model prog w) A (ofAClassStatement n v) Q E s := by
 cases x with
 | non => cases (show v = .none from p); cases n <;> exact wpAny_pure h
 | int i => obtain ⟨t,e⟩ := p; subst e; cases n <;> exact wpAny_pure h
 | str x => obtain ⟨t,e⟩ := p; subst e; cases n <;> exact wpAny_pure h
theorem class1 {n : Nat} {x : A1} {v : Value} {Q : Bool -> Shared -> Prop} (p : x.val s.heap v) (h : Q false s) : wpAny (model prog w) A (ofAClassStatement (n + 1) v) Q E s := by
 cases x with
 | «at» x => exact class0 p h
 | tup l =>
  obtain ⟨b,items,rfl,t,r⟩ := p
  exact class_tup t (fun v hv Q' q => by obtain ⟨x,hx⟩ := Paired.memR r hv; exact class0 hx q) h
theorem classLK {n : Nat} {Q : Bool -> Shared -> Prop} (p : isLK s.heap k a) (h : Q false s) : wpAny (model prog w) A (ofAClassStatement (n + 2) (.ref a)) Q E s := by
 obtain ⟨items,t,r⟩ := p
 exact class_tup t (fun v hv Q' q => by obtain ⟨x,hx⟩ := Paired.memR r hv; exact class1 hx q) h
theorem quietLK {n : Nat} {Q : Bool -> Shared -> Prop} (p : isLK s.heap k a) (h : Q true s) : wpAny (model prog w) A (eqIsQuiet (n + 2) (.ref a)) Q E s := by
 obtain ⟨items,t,r⟩ := p
 exact quiet_tup t (fun v hv Q' q => by obtain ⟨x,hx⟩ := Paired.memR r hv; exact quiet1 hx q) h
theorem unseen {vs : List Value} {Q : Bool -> Shared -> Prop} (hx : isLK s.heap k a) (hv : ∀ v ∈ vs,∃ k' b,v = .ref b /\ isLK s.heap k' b) (q : Q false s) : wpAny (model prog w) A (searchCouldBeSeen (.ref a) vs) Q E s := by
 unfold searchCouldBeSeen
 refine wpAny_bind ?_
 refine wpAny_forIn_list _ (fun rest r s' => r.1 = none /\ s' = s /\ ∀ v ∈ rest,v ∈ vs) _ ?_ ?_ _ _ ⟨rfl,rfl,fun v h => h⟩
 ·rintro v rest r s' ⟨hr,rfl,hall⟩
  obtain ⟨k',b,rfl,hb⟩ := hv v (hall v List.mem_cons_self)
  dsimp only
  have go : ∀ {α : Prop},(∀ u ∈ rest,u ∈ vs) -> True := fun _ => trivial
  refine wpAny_ite_split (fun _ => wpAny_pure ⟨rfl,rfl,fun u h => hall u (List.mem_cons_of_mem _ h)⟩) fun _ => ?_
  refine wpAny_bind (quietLK (n := 6) hx ?_)
  simp only [Bool.not_true,Bool.false_eq_true,if_false]
  refine wpAny_bind (quietLK (n := 6) hb ?_)
  simp only [Bool.not_true,Bool.false_eq_true,if_false]
  refine wpAny_bind (classLK (n := 6) hx ?_)
  simp only [Bool.false_eq_true,if_false]
  refine wpAny_bind (classLK (n := 6) hb ?_)
  simp only [Bool.false_eq_true,if_false]
  exact wpAny_pure ⟨rfl,rfl,fun u h => hall u (List.mem_cons_of_mem _ h)⟩
 ·rintro ⟨r1,r2⟩ s' ⟨hr,rfl,_⟩
  simp only at hr
  subst hr
  exact wpAny_pure q
theorem odd_mask {t : SetTable} {n : Nat} (o : THf t n) : t.gaveWay = false := by
 obtain ⟨j,h3,e⟩ := o.k
 obtain ⟨i,rfl⟩ : ∃ i,j = i + 1 := ⟨j - 1,by omega⟩
 rw [Nat.pow_succ] at e
 unfold gaveWay
 simp only [beq_eq_false_iff_ne]
 omega
theorem search_new {L : List (LK × Addr)} {ep : Nat} {t : SetTable} (hu : A.units + 4 < cLine) (ho : s.heap.get? S = some (setO (L.map (ent w)).toArray ep t)) (tok : TOk t L.length) (keys : ∀ x ∈ L,isLK s.heap x.1 x.2 /\ okLK x.1 = true) (hx : isLK s.heap k a) (ox : okLK k = true) (new : k ∉ L.map (·.1)) :
  ∀ (m fuel : Nat) (stand : Option Probe) {Q : SetFound -> Shared -> Prop},m < fuel -> m < 10 * turns t.mask -> POk t (stand.getD (t.probeStart (hk w k))) -> t.slot (steps t m (stand.getD (t.probeStart (hk w k)))).j = .empty ->
   (∀ j,j ∉ t.place -> j <= t.mask -> Q (.free j false) s) -> wpAny (model prog w) A (setSearchFrom S (.ref a) (hk w k) true fuel stand) Q E s := by
 intro m
 induction m using Nat.strongRecOn with
 | ind m ih =>
  intro fuel stand Q lt lm po em q
  obtain ⟨f,rfl⟩ : ∃ f,fuel = f + 1 := ⟨fuel - 1,by omega⟩
  have fits : t.fits (L.map (ent w)).toArray.size = true := by simpa using tok.fits
  unfold setSearchFrom
  refine wpAny_bind (wpAny_setState_of ho rfl fits ?_)
  dsimp only
  rw [odd_mask tok.toTHf]
  simp only [Bool.false_eq_true,if_false]
  rcases go_ends tok.d (fun i => (((L.map (ent w)).toArray[i]?.map (fun e => e.1)).getD 0 : Int)) (hk w k) m _ _ lm po em with ⟨j,e,hs,hj⟩ | ⟨j,i,p',m',e,hs,hc,po',lm',em'⟩
  ·have e' : t.probe (fun i => (((L.map (ent w)).toArray[i]?.map (fun e => e.1)).getD 0 : Int)) (hk w k) (stand.getD (t.probeStart (hk w k))) = some (.empty j none) := e
   generalize hP : t.probe _ (hk w k) (stand.getD (t.probeStart (hk w k))) = pr
   have ep' : pr = some (.empty j none) := hP.symm.trans e'
   subst ep'
   exact wpAny_pure (q j ((slot_of tok.d tok.r j).1.mpr hs) hj)
  ·have e' : t.probe (fun i => (((L.map (ent w)).toArray[i]?.map (fun e => e.1)).getD 0 : Int)) (hk w k) (stand.getD (t.probeStart (hk w k))) = some (.candidate j i p') := e
   generalize hP : t.probe _ (hk w k) (stand.getD (t.probeStart (hk w k))) = pr
   have ep' : pr = some (.candidate j i p') := hP.symm.trans e'
   subst ep'
   dsimp only
   have hi : t.place[i]? = some j := (slot_of tok.d tok.r j).2 i hs
   have il : i < L.length := by have := (Array.getElem?_eq_some_iff.mp hi).1; have := tok.sz; omega
   have ei : (L.map (ent w)).toArray[i]? = some (ent w L[i]) := by simp [il]
   obtain ⟨hy,oy⟩ := keys L[i] (List.getElem_mem il)
   have ne : L[i].1 ≠ k := fun c => new (List.mem_map.mpr ⟨_,List.getElem_mem il,c⟩)
   have tail : wpAny (model prog w) A (do
     let some (_,y) := (L.map (ent w)).toArray[i]? | unsupported "internal:set-entry"
     let equal <- holding [y] (eqBool y (.ref a))
     let (es',_,t') <- setState S
     if true && equal then return SetFound.there none
     let some same := t'.sameMemory t.moves t.mask | unsupported "set.changed-during-lookup:is-the-new-block-at-the-old-address"
     let still <- match (if same then t'.slot j else .empty) with
      | .live i' => match es'[i']? with
       | some (_,y') => do pure (if <- isSame y' y then some i' else none)
       | none => pure none
      | _ => pure none
     match still with
     | none => rule "set.search.anew"; setSearchFrom S (.ref a) (hk w k) true f none
     | some i' => if equal then return .there (some i') else setSearchFrom S (.ref a) (hk w k) true f (some p')) Q E s := by
    rw [ei]
    dsimp only [ent]
    refine wpAny_bind (wpAny_holding (eqLK hu hy hx oy ox ?_))
    refine wpAny_bind (wpAny_setState_of ho rfl fits ?_)
    dsimp only
    simp only [ne,decide_false,Bool.and_false,Bool.false_eq_true,if_false]
    have sm : t.sameMemory t.moves t.mask = some true := by simp [sameMemory]
    rw [sm]
    simp only [if_true,hs,ei]
    dsimp only [ent]
    refine wpAny_bind (show wpAny _ _ (isSame (.ref L[i].2) (.ref L[i].2)) _ _ s from ?_)
    change wpAny _ _ (if (L[i].2 == L[i].2) = true then pure true else _) _ _ s
    rw [if_pos (by simp)]
    refine wpAny_pure (wpAny_bind (wpAny_pure ?_))
    simp only [if_true]
    exact ih m' lm' f (some p') (by omega) (by omega) po' em' q
   cases hl : t.led with
   | true =>
    simp only [Bool.not_true,Bool.false_eq_true,if_false]
    exact tail
   | false =>
    simp only [Bool.not_false,if_true]
    refine wpAny_bind (unseen hx (fun v hv => ?_) ?_)
    ·obtain ⟨x,hx',rfl⟩ := List.mem_map.mp hv
     simp at hx'
     obtain ⟨⟨y1,y2,hy',rfl⟩,_⟩ := hx'
     exact ⟨y1,y2,rfl,(keys (y1,y2) hy').1⟩
    ·simp only [Bool.false_eq_true,if_false]
     exact tail
theorem byV_tup {n : Nat} {items : Array Value} {Q : Bool -> Shared -> Prop} (ht : zbl s.heap a items) (hi : ∀ v ∈ items.toList,∀ Q' : Bool -> Shared -> Prop,(∀ b,Q' b s) -> wpAny (model prog w) A (hashByValue n v) Q' E s) (h : ∀ b,Q b s) :
  wpAny (model prog w) A (hashByValue (n + 1) (.ref a)) Q E s := by
 obtain ⟨o,j,ho,hc,hd⟩ := ht
 have hT : s.TypeIs (.ref a) "tuple" := ⟨o,ho,hc⟩
 unfold hashByValue
 refine wpAny_bind (wpAny_specialOf hT F.slot_tuple_hash.lookup ?_)
 dsimp only
 refine wpAny_bind (wpAny_seqItems ho hd ?_)
 refine wpAny_bind ?_
 change wpAny _ _ (forIn items _ _) _ _ s
 rw [<- Array.forIn_toList]
 refine wpAny_forIn_list _ (fun rest r s' => s' = s /\ (∀ v ∈ rest,v ∈ items.toList) /\ r.1 = none) _ ?_ ?_ _ _ ⟨rfl,fun v hv => hv,rfl⟩
 ·rintro v rest r s' ⟨rfl,hall,_⟩
  refine wpAny_bind (hi v (hall v List.mem_cons_self) _ fun b => ?_)
  cases b
  ·exact wpAny_pure (wpAny_pure (h _))
  ·exact wpAny_pure ⟨rfl,fun u hu' => hall u (List.mem_cons_of_mem _ hu'),rfl⟩
 ·rintro ⟨r1,r2⟩ s' ⟨rfl,_,hr⟩
  simp only at hr
  subst hr
  exact wpAny_pure (h _)
theorem byV0 {n : Nat} {x : A0} {v : Value} {Q : Bool -> Shared -> Prop} (p : x.val v) (h : ∀ b,Q b s) : wpAny (model prog w) A (hashByValue n v) Q E s := by
 cases x with
 | non => cases (show v = .none from p); cases n <;> exact wpAny_pure (h _)
 | int i => obtain ⟨t,e⟩ := p; subst e; cases n <;> exact wpAny_pure (h _)
 | str x => obtain ⟨t,e⟩ := p; subst e; cases n <;> exact wpAny_pure (h _)
theorem byV1 {n : Nat} {x : A1} {v : Value} {Q : Bool -> Shared -> Prop} (p : x.val s.heap v) (h : ∀ b,Q b s) : wpAny (model prog w) A (hashByValue (n + 1) v) Q E s := by
 cases x with
 | «at» x => exact byV0 p h
 | tup l =>
  obtain ⟨b,items,rfl,t,r⟩ := p
  exact byV_tup t (fun v hv Q' q => by obtain ⟨x,hx⟩ := Paired.memR r hv; exact byV0 hx q) h
theorem byV {n : Nat} {Q : Bool -> Shared -> Prop} (p : isLK s.heap k a) (h : ∀ b,Q b s) : wpAny (model prog w) A (hashByValue (n + 2) (.ref a)) Q E s := by
 obtain ⟨items,t,r⟩ := p
 exact byV_tup t (fun v hv Q' q => by obtain ⟨x,hx⟩ := Paired.memR r hv; exact byV1 hx q) h
theorem memRx {α β : Type} {F : α -> β -> Prop} : ∀ {l : List α} {r : List β} {v : β},Paired F l r -> v ∈ r -> ∃ x,x ∈ l /\ F x v
 | _,_,_,.nil,h => by simp at h
 | _,_,_,.cons p q,h => by
  rcases List.mem_cons.mp h with e | h
  ·subst e; exact ⟨_,List.mem_cons_self,p⟩
  ·obtain ⟨x,hx,e⟩ := memRx q h
   exact ⟨x,List.mem_cons_of_mem _ hx,e⟩
theorem byI {n : Nat} {Q : Bool -> Shared -> Prop} (p : isLK s.heap k a) (hi : k.all isI = true) (h : Q true s) : wpAny (model prog w) A (hashByValue (n + 1) (.ref a)) Q E s := by
 obtain ⟨items,⟨o,j,ho,hc,hd⟩,r⟩ := p
 have hT : s.TypeIs (.ref a) "tuple" := ⟨o,ho,hc⟩
 unfold hashByValue
 refine wpAny_bind (wpAny_specialOf hT F.slot_tuple_hash.lookup ?_)
 dsimp only
 refine wpAny_bind (wpAny_seqItems ho hd ?_)
 refine wpAny_bind ?_
 change wpAny _ _ (forIn items _ _) _ _ s
 rw [<- Array.forIn_toList]
 refine wpAny_forIn_list _ (fun rest r s' => s' = s /\ (∀ v ∈ rest,v ∈ items.toList) /\ r.1 = none) _ ?_ ?_ _ _ ⟨rfl,fun v hv => hv,rfl⟩
 ·rintro v rest r' s' ⟨rfl,hall,_⟩
  obtain ⟨x,hx,hxv⟩ := memRx r (hall v List.mem_cons_self)
  have := List.all_eq_true.mp hi x hx
  have ev : hashByValue n v = pure true := by
   cases x with
   | tup l => cases this
   | «at» y =>
    cases y with
    | int i => obtain ⟨t,e⟩ := hxv; subst e; cases n <;> rfl
    | _ => cases this
  rw [ev]
  exact wpAny_bind (wpAny_pure (wpAny_pure ⟨rfl,fun u hu' => hall u (List.mem_cons_of_mem _ hu'),rfl⟩))
 ·rintro ⟨r1,r2⟩ s' ⟨rfl,_,hr⟩
  simp only at hr
  subst hr
  exact wpAny_pure h
theorem THf.off {t : SetTable} {n : Nat} (o : THf t n) (p : Bool) : THf { t with plain := p } n := ⟨o.k,o.d,o.sz,o.r,o.b,o.le⟩
theorem ent_ins (L : List (LK × Addr)) (p : Nat) (x : LK × Addr) : insertAt (L.map (ent w)).toArray p (ent w x) = ((L.take p ++ x :: L.drop p).map (ent w)).toArray := by
 apply Array.ext'
 rw [toList_insertAt]
 simp [List.map_take,List.map_drop]
theorem ent_ord (L : List (LK × Addr)) (order : Array Nat) : order.filterMap ((L.map (ent w)).toArray[·]?) = ((order.toList.filterMap (L[·]?)).map (ent w)).toArray := by
 apply Array.ext'
 rw [Array.toList_filterMap]
 simp only [List.map_filterMap]
 congr 1
 funext i
 simp
theorem ord_perm' (L : List (LK × Addr)) {order : Array Nat} (p : order.toList.Perm (List.range L.length)) : (order.toList.filterMap (L[·]?)).Perm L :=
 (p.filterMap _).trans (by rw [List.filterMap_getElem?_range_length])
theorem again_lk {L : List (LK × Addr)} {ep : Nat} {t : SetTable} {Q : Unit -> Shared -> Prop} (ho : s.heap.get? S = some (setO (L.map (ent w)).toArray ep t)) (tf : THf t L.length) (n0 : 0 < L.length) (nb : L.length <= 1200)
  (q : ∀ (L' : List (LK × Addr)) (t' : SetTable),L'.Perm L -> TOk t' L.length -> t'.led = t.led -> t'.plain = t.plain -> t'.mask <= 9900 -> Q () { s with heap := s.heap.update S (Obj.putSet (L'.map (ent w)).toArray t') }) : wpAny (model prog w) A (setRelay S (grown L.length)) Q E s := by
 obtain ⟨t',order,e,o,p,a,b,m⟩ := relaid_ok (t := t) (n := L.length) ((L.map (ent w)).toArray.map (·.1)) (by simp) n0 (by omega)
 have hg : grown L.length = L.length * 4 := by unfold grown; rw [if_neg (by omega)]
 unfold setRelay
 refine wpAny_bind (wpAny_setState_of ho rfl (by simpa using tf.fits) ?_)
 dsimp only
 have hs : ¬ (sizeAbove (grown L.length) > sizeLine) := by
  have : sizeAbove (L.length * 4) <= max 8 (2 * (L.length * 4)) := sizeAbove_le 64 8 (L.length * 4)
  rw [hg,sizeLine_eq]; omega
 rw [if_neg hs,e]
 have pm := ord_perm' L p
 have sz : (order.filterMap ((L.map (ent w)).toArray[·]?)).size = (L.map (ent w)).toArray.size := by rw [ent_ord]; simpa using pm.length_eq
 refine wpAny_bind (show wpAny _ _ (if ((order.filterMap ((L.map (ent w)).toArray[·]?)).size != (L.map (ent w)).toArray.size) = true then _ else pure (order.filterMap ((L.map (ent w)).toArray[·]?),t')) _ _ s from ?_)
 rw [if_neg (by rw [sz]; simp)]
 refine wpAny_pure ?_
 dsimp only
 rw [ent_ord]
 refine wpAny_storeSet_of ho rfl (q _ t' pm o a b (by omega)) ?_
 simp only [List.size_toArray,List.length_map]
 rw [pm.length_eq,sizeLine_eq]; omega
theorem add_lk {pl : Bool} {ks : List (LK × Addr)} {Q : Bool -> Shared -> Prop} (hu : A.units + 4 < cLine) (r : SL w s.heap S pl ks) (keys : ∀ x ∈ ks,isLK s.heap x.1 x.2 /\ okLK x.1 = true) (hx : isLK s.heap k a) (ox : okLK k = true) (new : k ∉ ks.map (·.1)) (hb : ks.length + 1 <= 1200) (hv : pl = true -> k.all isI = true)
  (q : ∀ h' tk,Heap.SameBut S s.heap h' -> SL w h' S pl (ks ++ [(k,a)]) -> Q true { s with heap := h',toks := tk }) : wpAny (model prog w) A (setAdd S (.ref a)) Q E s := by
 obtain ⟨L,ep,t,ho,sl⟩ := r
 have tok := sl.k
 have ln : L.length = ks.length := sl.pm.length_eq
 have fits : t.fits (L.map (ent w)).toArray.size = true := by simpa using tok.fits
 unfold setAdd setAddHashed setAddHashedIn
 refine wpAny_holding (wpAny_bind (hashLK hu hx ?_))
 generalize s.toks + ((k.map draw1).sum + 1) = tk1
 refine wpAny_holding (wpAny_bind (wpAny_setState_of (s := { s with toks := tk1 }) ho rfl fits ?_))
 dsimp only
 rw [show byScan (.ref a) (L.map (ent w)).toArray = false by simp [byScan,Value.scannable],if_neg Bool.false_ne_true]
 obtain ⟨m,hm,em⟩ := tok.walk (POk.start t (hk w k))
 have mb := sl.m
 unfold setSearch
 refine wpAny_bind (search_new (s := { s with toks := tk1 }) hu ho tok (fun x hx => keys x (sl.pm.mem_iff.mp hx)) hx ox (fun c => new ((sl.pm.map _).mem_iff.mp c)) m 100000 none (by unfold turns at hm; omega) hm (POk.start t _) em fun j nj lj => ?_)
 dsimp only
 refine wpAny_bind (wpAny_setState_of (s := { s with toks := tk1 }) ho rfl fits ?_)
 dsimp only
 have f1 : L.length + 1 <= t.mask := by have := tok.f; have := tok.m7; omega
 obtain ⟨tp,e2,ld1,pl1,m1⟩ := tok.put nj lj f1
 generalize hT : t.put j = tp' at *
 obtain ⟨t1,p1⟩ := tp'
 dsimp only at tp e2 ld1 pl1 m1 ⊢
 subst e2
 have key : ∀ bv : Bool,(pl = true -> bv = true) -> wpAny (model prog w) A (do
   storeSet S (insertAt (L.map (ent w)).toArray (below t.place j) (hk w k,.ref a)) (if bv = true then t1 else { t1 with plain := false })
   if (!false && (if bv = true then t1 else { t1 with plain := false }).tooFull) = true then setRelay S (grown ((L.map (ent w)).toArray.size + 1))
   pure true) Q E { s with toks := tk1 } := by
  intro bv hbv
  have tp2 : THf (if bv = true then t1 else { t1 with plain := false }) (L.length + 1) := by
   split
   ·exact tp
   ·exact tp.off false
  have ld2 : (if bv = true then t1 else { t1 with plain := false }).led = zbQ w := by
   split
   ·exact ld1.trans sl.l
   ·exact ld1.trans sl.l
  have pl2 : pl = true -> (if bv = true then t1 else { t1 with plain := false }).plain = true := fun c => by
   rw [if_pos (hbv c)]; exact pl1.trans (sl.p c)
  have mk2 : (if bv = true then t1 else { t1 with plain := false }).mask <= 9900 := by
   split
   ·rw [m1]; exact sl.m
   ·show t1.mask <= 9900; rw [m1]; exact sl.m
  generalize (if bv = true then t1 else { t1 with plain := false }) = t2 at tp2 ld2 pl2 mk2
  have ee : insertAt (L.map (ent w)).toArray (below t.place j) (hk w k,Value.ref a) = ((L.take (below t.place j) ++ (k,a) :: L.drop (below t.place j)).map (ent w)).toArray := ent_ins L _ (k,a)
  have pm' : (L.take (below t.place j) ++ (k,a) :: L.drop (below t.place j)).Perm (ks ++ [(k,a)]) := by
   refine List.perm_middle.trans ?_
   rw [List.take_append_drop]
   exact ((sl.pm.cons (k,a)).trans (List.perm_append_singleton (k,a) ks).symm)
  have ln' : (L.take (below t.place j) ++ (k,a) :: L.drop (below t.place j)).length = L.length + 1 := by rw [pm'.length_eq]; simp [ln]
  rw [ee]
  generalize L.take (below t.place j) ++ (k,a) :: L.drop (below t.place j) = L2 at pm' ln'
  have zl : (L2.map (ent w)).toArray.size <= sizeLine := by simp; rw [ln',sizeLine_eq]; omega
  refine wpAny_bind (wpAny_storeSet_of (s := { s with toks := tk1 }) ho rfl ?_ zl)
  have ho1 := put_at (es' := (L2.map (ent w)).toArray) (t' := t2) ho
  have sb1 := Heap.SameBut.update s.heap S (Obj.putSet (L2.map (ent w)).toArray t2)
  rw [Bool.not_false,Bool.true_and]
  rw [show (L.map (ent w)).toArray.size + 1 = L2.length by simp [ln']]
  split
  ·refine wpAny_bind (again_lk (s := { s with heap := s.heap.update S (Obj.putSet (L2.map (ent w)).toArray t2),toks := tk1 }) ho1 (by rw [ln']; exact tp2) (by omega) (by omega) fun L3 t3 p3 o3 l3 q3 m3 => ?_)
   refine wpAny_pure (q _ tk1 (sb1.trans (Heap.SameBut.update _ S _)) ⟨L3,_,t3,put_at ho1,⟨by rw [p3.length_eq]; exact o3,l3.trans ld2,fun c => q3.trans (pl2 c),m3,p3.trans pm'⟩⟩)
  ·rename_i nf
   have nf' : L2.length * 5 < t2.mask * 3 := by
    simp only [tooFull,SetTable.fill,tp2.d,tp2.sz,Array.size_empty,Nat.add_zero,ge_iff_le,decide_eq_true_eq] at nf
    rw [ln']; simpa using nf
   exact wpAny_pure (q _ tk1 sb1 ⟨L2,_,t2,ho1,⟨⟨by rw [ln']; exact tp2,nf'⟩,ld2,pl2,mk2,pm'⟩⟩)
 split
 ·cases hp : pl with
  | true => exact wpAny_bind (byI (n := 7) (s := { s with toks := tk1 }) hx (hv hp) (key true fun _ => rfl))
  | false => exact wpAny_bind (byV (n := 6) (s := { s with toks := tk1 }) hx fun b => key b fun c => by rw [hp] at c; cases c)
 ·exact wpAny_bind (wpAny_pure (key true fun _ => rfl))
theorem isLK.kept {h g : Heap} (r : isLK h k a) (q : ∀ b o,h.get? b = some o -> g.get? b = some o) : isLK g k a := by
 have tk : ∀ {b : Addr} {its : Array Value},zbl h b its -> zbl g b its := fun ⟨o,n,e,c,d⟩ => ⟨o,n,q _ _ e,c,d⟩
 have kA : ∀ {x : A1} {v : Value},A1.val h x v -> A1.val g x v := fun {x v} p => by
  cases x with
  | «at» x => exact p
  | tup l => obtain ⟨b,its,e,t,r⟩ := p; exact ⟨b,its,e,tk t,r⟩
 obtain ⟨items,t,r⟩ := r
 refine ⟨items,tk t,?_⟩
 generalize items.toList = vs at r
 clear t
 induction r with
 | nil => exact .nil
 | cons p _ ih => exact .cons (kA p) ih
theorem SL.new (pl : Bool) (h : Heap) : SL w (h.push (setO #[] 0 (.fresh 0 0 (zbQ w)))) h.objs.size pl [] := ⟨[],0,_,Heap.get?_push_size _ rfl,TOk.fresh _ _ _,rfl,fun _ => rfl,by show 7 <= 9900; decide,.refl _⟩
variable {R : Result -> Shared -> Prop} {I l : Addr} {fp wr : List Addr} {n : Nat} {P : Nat -> Value -> Prop} {St : Nat -> Heap -> Prop} {OK : Heap -> Prop} {T : String}
theorem upd_lk {h0 : Heap} {pl : Bool} (W : Walks prog w A.in1 I fp wr n P St) (nS : S ∉ fp) (hu : A.units + 5 < cLine) {ks : List (LK × Addr)} (hval : ∀ i v,i < n -> P i v -> ∃ x,ks[i]? = some x /\ v = .ref x.2) (keys : ∀ x ∈ ks,isLK h0 x.1 x.2 /\ okLK x.1 = true) (nd : (ks.map (·.1)).Nodup) (hv : pl = true -> ∀ x ∈ ks,x.1.all isI = true) (en : ks.length = n) (hb : n <= 1200) :
  ∀ (j i : Nat) (s : Shared),n - i = j -> i <= n -> St i s.heap -> SL w s.heap S pl (ks.take i) -> (∀ b o,h0.get? b = some o -> s.heap.get? b = some o) -> (∀ b ∈ S :: wr,h0.get? b = none) ->
   (∀ h' tk,(∀ b o,b ∉ S :: wr -> s.heap.get? b = some o -> h'.get? b = some o) -> SL w h' S pl ks -> R (.ok (.ret .none)) { s with heap := h',toks := tk }) ->
   codeAny (model prog w) A (.builtin "set.update.loop" ⟨[.ref S,.ref I],[]⟩) R s := by
 have nW : S ∉ wr := fun h => nS (W.sub _ h)
 intro j
 induction j with
 | zero =>
  intro i s hk hi st si old fr q
  have ei : i = n := by omega
  subst ei
  refine codeAny_builtin e_upd ?_
  rw [Around.under_plainId p_upd _]
  change wpAny _ A.in1 (pyNext (.ref I) >>= fun _ => _) _ _ s
  refine wpAny_bind (W.done s _ _ st fun h' tk kp => ?_)
  refine wpAny_pure (q h' tk (fun b o nb => kp b o fun c => nb (List.mem_cons_of_mem _ c)) ?_)
  rw [<- en,List.take_length] at si
  exact si.mv fun o e => kp S o nW e
 | succ j ih =>
  intro i s hk hi st si old fr q
  have lt : i < n := by omega
  refine codeAny_builtin e_upd ?_
  rw [Around.under_plainId p_upd _]
  change wpAny _ A.in1 (pyNext (.ref I) >>= fun _ => _) _ _ s
  refine wpAny_bind (W.item i s _ _ lt st fun v h1 tk hP st1 kp => ?_)
  obtain ⟨x,ex,rfl⟩ := hval i v lt hP
  have hxm : x ∈ ks := List.mem_of_getElem? ex
  have old1 : ∀ b o,h0.get? b = some o -> h1.get? b = some o := fun b o e => kp b o (fun c => by rw [fr b (List.mem_cons_of_mem _ c)] at e; cases e) (old b o e)
  have si1 : SL w h1 S pl (ks.take i) := si.mv fun o e => kp S o nW e
  have et : ks.take (i + 1) = ks.take i ++ [x] := by rw [List.take_add_one,ex]; rfl
  have nw : x.1 ∉ (ks.take i).map (·.1) := fun c => by
   have nd2 : ((ks.take (i + 1)).map (·.1)).Nodup := nd.sublist ((List.take_sublist _ _).map _)
   rw [et,List.map_append] at nd2
   exact (List.nodup_append.mp nd2).2.2 _ c x.1 (by simp) rfl
  change wpAny _ A.in1 (holding [Value.ref x.2] (setAdd S (.ref x.2)) >>= fun _ => _) _ _ _
  refine wpAny_bind (wpAny_holding (add_lk (s := { s with heap := h1,toks := tk }) (k := x.1) (by show A.units + 1 + 4 < cLine; omega) si1 (fun y hy => ⟨isLK.kept (keys y (List.mem_of_mem_take hy)).1 old1,(keys y (List.mem_of_mem_take hy)).2⟩) (isLK.kept (keys x hxm).1 old1) (keys x hxm).2 nw (by rw [List.length_take]; omega) (fun c => hv c x hxm) fun h2 tk2 sb si2 => ?_))
  rw [show ks.take i ++ [(x.1,x.2)] = ks.take (i + 1) from et.symm] at si2
  have old2 : ∀ b o,h0.get? b = some o -> h2.get? b = some o := fun b o e => (sb.2 b fun c => by rw [c,fr S List.mem_cons_self] at e; cases e).trans (old1 b o e)
  refine wpAny_pure ⟨plainId_quiet p_upd _,ih (i + 1) _ (by omega) lt (W.frame _ h1 _ st1 fun b hb o e => ?_) si2 old2 fr fun h' tk' k2 si' => ?_⟩
  ·exact (sb.2 b fun c => nS (c ▸ hb)).trans e
  ·refine q h' tk' (fun b o nb e => k2 b o nb ?_) si'
   exact (sb.2 b fun c => nb (by rw [c]; exact List.mem_cons_self)).trans (kp b o (fun c => nb (List.mem_cons_of_mem _ c)) e)
theorem set_gen {Q : Value -> Shared -> Prop} {D : Heap -> Prop} (K : Seq prog w T l n P OK) (hh : A.handled = none) (ok : OK s.heap)
  (lp : ∀ (St : Nat -> Heap -> Prop) (oI : Obj) (R : Result -> Shared -> Prop),Walks prog w A.in1.in1.in1 (s.heap.push (setO #[] 0 (.fresh 0 0 (zbQ w)))).objs.size [(s.heap.push (setO #[] 0 (.fresh 0 0 (zbQ w)))).objs.size,l] [(s.heap.push (setO #[] 0 (.fresh 0 0 (zbQ w)))).objs.size] n P St -> St 0 ((s.heap.push (setO #[] 0 (.fresh 0 0 (zbQ w)))).push oI) ->
   (∀ h' tk,(∀ b o,s.heap.get? b = some o -> h'.get? b = some o) -> D h' -> R (.ok (.ret .none)) { s with heap := h',toks := tk }) -> codeAny (model prog w) A.in1.in1 (.builtin "set.update.loop" ⟨[.ref s.heap.objs.size,.ref (s.heap.push (setO #[] 0 (.fresh 0 0 (zbQ w)))).objs.size],[]⟩) R { s with heap := (s.heap.push (setO #[] 0 (.fresh 0 0 (zbQ w)))).push oI })
  (q : ∀ h' tk,D h' -> (∀ b o,s.heap.get? b = some o -> h'.get? b = some o) -> Q (.ref s.heap.objs.size) { s with heap := h',toks := tk }) :
  wpAny (model prog w) A (call (.type "set") [.ref l]) Q E s := by
 obtain ⟨c,tl,mro⟩ := F.called_set.mro
 have made := F.called_set.made; have sub := F.called_set.sub
 refine wpAny_call (codeAny_of_tree ?_)
 change wpAny _ _ (callAny (.type "set") _) _ _ _
 refine wpAny_pure ⟨Code.quiet_builtin _ (by decide +kernel),codeAny_builtin F.entry_type_call ?_⟩
 rw [Around.under_plain (weight_type_call_type "set" [.ref l] []) rfl]
 have h1 := F.called_set.notType; have h2 := F.called_set.canCreate; have hct := F.typeCall_set_1 (.ref l)
 repeat (any_goals (first | assumption | wp_step))
 refine codeAny_mono (new_code (.ref l) (E := E) (Q1 := fun obj s1 => obj = .ref s.heap.objs.size /\ s1 = { s with heap := s.heap.push (setO #[] 0 (.fresh 0 0 (zbQ w))) }) ⟨rfl,rfl⟩) fun r s1 hr => ?_
 cases r with
 | error e => exact hr
 | ok fl =>
  cases fl with
  | ret obj =>
   obtain ⟨rfl,rfl⟩ := hr
   have eS : (s.heap.push (setO #[] 0 (.fresh 0 0 (zbQ w)))).get? s.heap.objs.size = some (setO #[] 0 (.fresh 0 0 (zbQ w))) := Heap.get?_push_size _ rfl
   have hT : Shared.TypeIs { s with heap := s.heap.push (setO #[] 0 (.fresh 0 0 (zbQ w))) } (.ref s.heap.objs.size) "set" := ⟨_,eS,rfl⟩
   have li := F.called_set.init.lookup; have bi := F.called_set.init.bind (.ref s.heap.objs.size)
   repeat (any_goals (first | assumption | wp_step))
   refine codeAny_mono (codeAny_call_builtin (R := wants (fun r s2 => r = .none /\ ∃ h' tk,s2 = { s with heap := h',toks := tk } /\ D h' /\ ∀ b o,s.heap.get? b = some o -> h'.get? b = some o) E) F.called_set.init.plain F.entry_set_init (check_set_init_1 hT ?_)) fun r2 s2 hr2 => ?_
   ·have ok1 : OK (s.heap.push (setO #[] 0 (.fresh 0 0 (zbQ w)))) := K.keep _ _ ok fun o e => Heap.get?_push_of_some _ e
    have tyl := K.ty { s with heap := s.heap.push (setO #[] 0 (.fresh 0 0 (zbQ w))) } ok1
    have n1 := K.n1; have n2 := K.n2; have n3 := K.n3
    unfold Builtin.«set.__init__» noKeywords Builtin.Frozenset.updateFrom
    generalize hPI : pyIter = PI
    wp_walk
    subst hPI
    obtain ⟨oI,St,hit,W,st⟩ := K.iter A.in1.in1.in1 { s with heap := s.heap.push (setO #[] 0 (.fresh 0 0 (zbQ w))) } (by simp [hh]) ok1
    refine wpAny_of_in1 (hit _ _ ?_)
    refine wpAny_bind (wpAny_runValue ?_)
    exact lp St oI _ W st fun h' tk kp d => wpAny_pure (wpAny_pure ⟨rfl,h',tk,rfl,d,kp⟩)
   ·cases r2 with
    | error e => exact hr2
    | ok fl2 =>
     cases fl2 with
     | ret r =>
      obtain ⟨rfl,h',tk,rfl,d,kp⟩ := hr2
      repeat (any_goals (first | assumption | wp_step))
      exact q _ _ d kp
     | _ => exact hr2.elim
  | _ => exact hr.elim
theorem set_lk {pl : Bool} {Q : Value -> Shared -> Prop} (K : Seq prog w T l n P OK) (hh : A.handled = none) (hu : A.units + 20 < cLine) (ok : OK s.heap) {ks : List (LK × Addr)} (hval : ∀ i v,i < n -> P i v -> ∃ x,ks[i]? = some x /\ v = .ref x.2) (keys : ∀ x ∈ ks,isLK s.heap x.1 x.2 /\ okLK x.1 = true) (nd : (ks.map (·.1)).Nodup) (hv : pl = true -> ∀ x ∈ ks,x.1.all isI = true) (en : ks.length = n) (hb : n <= 1200)
  (q : ∀ h' tk,SL w h' s.heap.objs.size pl ks -> (∀ b o,s.heap.get? b = some o -> h'.get? b = some o) -> Q (.ref s.heap.objs.size) { s with heap := h',toks := tk }) : wpAny (model prog w) A (call (.type "set") [.ref l]) Q E s := by
 refine set_gen (D := fun h' => SL w h' s.heap.objs.size pl ks) K hh ok (fun St oI R W st hR => ?_) q
 have lS := K.lt _ ok
 have zs : (s.heap.push (setO #[] 0 (.fresh 0 0 (zbQ w)))).objs.size = s.heap.objs.size + 1 := Heap.size_push _ _
 have nS : s.heap.objs.size ∉ [(s.heap.push (setO #[] 0 (.fresh 0 0 (zbQ w)))).objs.size,l] := by
  simp only [List.mem_cons,List.not_mem_nil,or_false,not_or]; exact ⟨fun c => absurd (c.trans zs) (Nat.ne_of_lt (Nat.lt_succ_self _)),Nat.ne_of_gt lS⟩
 have big : ∀ b o,s.heap.get? b = some o -> b ∉ [s.heap.objs.size,(s.heap.push (setO #[] 0 (.fresh 0 0 (zbQ w)))).objs.size] := fun b o e => by
  have lb := Heap.lt_size e
  simp only [List.mem_cons,List.not_mem_nil,or_false,not_or]
  exact ⟨Nat.ne_of_lt lb,fun c => absurd (c.trans zs) (Nat.ne_of_lt (Nat.lt_succ_of_lt lb))⟩
 refine upd_lk (h0 := s.heap) (A := A.in1.in1) W nS (by show A.units + 1 + 1 + 5 < cLine; omega) hval keys nd hv en hb n 0 _ (by omega) (Nat.zero_le _) st ((SL.new pl s.heap).mv fun o e => Heap.get?_push_of_some _ e) (fun b o e => Heap.get?_push_of_some _ (Heap.get?_push_of_some _ e)) (fun b hb' => ?_) fun h' tk kp d => ?_
 ·cases e : s.heap.get? b with
  | none => rfl
  | some o => exact absurd hb' (big b o e)
 ·exact hR h' tk (fun b o e => kp b o (big b o e) (Heap.get?_push_of_some _ (Heap.get?_push_of_some _ e))) d
end
end Tb
set_option Elab.async false
set_option linter.all false
set_option maxRecDepth 100000
set_option maxHeartbeats 4000000
namespace L3
open PySem PySem.Spec PyProof.Rows L2 Tb
section
variable {X : Cx} {e : Expr} {p p2 pos pos2 : Pos} {ta : TE3} {pins : List (Addr × Obj)} {s : Shared} {σ : L2.St} {H : Hp} {G : Gp} {kk : Nat}
theorem dens_ka (I : Inv X pins σ H s) : ∀ {ks : List LK} {xs : List V} {its : List Value},Dens X.kw H xs (ks.map lkT) -> zav xs its -> ∃ ka : List (LK × Addr),ka.map (·.1) = ks /\ its = ka.map (fun x => Value.ref x.2) /\ xs = ka.map (fun x => V.ref x.2) /\ ∀ x ∈ ka,isLK s.heap x.1 x.2 /\ Den X.kw H (.ref x.2) (lkT x.1)
 | [],_,_,.nil,.nil => ⟨[],rfl,rfl,rfl,fun x hx => by cases hx⟩
 | k :: ks,_,_,.cons (v := v) d dr,.cons r rr => by
  obtain ⟨ka,e1,e2,e3,e4⟩ := dens_ka I dr rr
  have hv : ∃ a,v = .ref a := by
   generalize et : lkT k = t at d
   cases d with
   | tup q ds => exact ⟨_,rfl⟩
   | ref => exact ⟨_,rfl⟩
   | fro => exact ⟨_,rfl⟩
   | _ => cases et
  obtain ⟨a,rfl⟩ := hv
  cases r
  refine ⟨(k,a) :: ka,by simp [e1],by simp [e2],by simp [e3],fun x hx => ?_⟩
  rcases List.mem_cons.mp hx with rfl | hx
  ·exact ⟨den_lk I d,d⟩
  ·exact e4 x hx
theorem set_seqLK {v : V} {u : Value} {x : T} {ks : List LK} {pl : Bool} {Q : Value -> Shared -> Prop} (hr : Room kk X.A) (hc : X.calm = true) (I : Inv X pins σ H s) (r1 : zaG v u) (d : Den X.kw H v x) (r : HR X.kw H G) (eu : zbm x G = some (ks.map lkT)) (nd : ks.Nodup) (ok : ∀ k ∈ ks,okLK k = true) (hv : pl = true -> ∀ k ∈ ks,k.all isI = true) (hn : ks.length <= 1200)
  (q : ∀ h' tk S ka,SL X.w h' S pl ka -> ka.map (·.1) = ks -> (∀ x ∈ ka,isLK s.heap x.1 x.2 /\ Den X.kw H (.ref x.2) (lkT x.1)) -> (∀ b o,s.heap.get? b = some o -> h'.get? b = some o) -> Q (.ref S) { s with heap := h',toks := tk }) : wpAny (model X.prog X.w) X.A (call (.type "set") [u]) Q X.xe s := by
 have hu := hr.un
 have main : ∀ {l : Addr} {xs : List V} {its : List Value} {T : String} {OK : Heap -> Prop},Seq X.prog X.w T l its.toArray.size (fun i v => its.toArray[i]? = some v) OK -> OK s.heap -> zav xs its -> Dens X.kw H xs (ks.map lkT) -> u = .ref l -> wpAny (model X.prog X.w) X.A (call (.type "set") [u]) Q X.xe s := fun {l xs its T OK} K ok' rv ds eu => by
  obtain ⟨ka,e1,e2,e3,e4⟩ := dens_ka I ds rv
  subst eu
  have hl : its.length = ks.length := by rw [e2,<- e1]; simp
  refine set_lk (pl := pl) (ks := ka) K (I.ok.hd hc) (by omega) ok' (fun i v hi h => ?_) (fun x hx => ⟨(e4 x hx).1,ok _ (by rw [<- e1]; exact List.mem_map.mpr ⟨x,hx,rfl⟩)⟩) (by rw [e1]; exact nd) (fun c x hx => hv c _ (by rw [<- e1]; exact List.mem_map.mpr ⟨x,hx,rfl⟩)) (by rw [<- e1] at hl; simpa using hl.symm) (by simp; omega) fun h' tk si k => q h' tk _ ka si e1 e4 k
  rw [e2] at h
  simp only [List.getElem?_toArray,List.getElem?_map,Option.map_eq_some_iff] at h
  obtain ⟨x,ex,rfl⟩ := h
  exact ⟨x,ex,rfl⟩
 cases d with
 | tup sq ds =>
  cases eu; cases r1
  obtain ⟨its,rr,pl',hz⟩ := I.tuple sq
  exact main (seq_tuple (items := its.toArray)) pl' rr ds rfl
 | fro sq ds =>
  cases eu; cases r1
  obtain ⟨its,rr,pl',hz⟩ := I.list sq.sq
  exact main (seq_list (items := its.toArray)) pl'.isList rr ds rfl
 | ref l =>
  simp only [zbm] at eu
  split at eu
  ·rename_i ts eg
   cases eu
   obtain ⟨xs,e1,ds⟩ := r l _ eg
   cases r1
   obtain ⟨its,rr,pl',hz⟩ := I.list (SqL.of e1)
   exact main (seq_list (items := its.toArray)) pl'.isList rr ds rfl
  ·cases eu
 | _ => cases eu
end
end L3
set_option Elab.async false
set_option linter.all false
set_option maxRecDepth 100000
set_option maxHeartbeats 4000000
namespace L3
open PySem PySem.Spec PyProof.Rows L2 Tb
theorem perm_map_ex {α β : Type} {f : α -> β} {l m : List β} (p : l.Perm m) : ∀ L : List α,m = L.map f -> ∃ L' : List α,L'.Perm L /\ l = L'.map f := by
 induction p with
 | nil => intro L e; exact ⟨L,.refl _,e⟩
 | cons x _ ih =>
  intro L e
  cases L with
  | nil => cases e
  | cons y L =>
   simp only [List.map_cons,List.cons.injEq] at e
   obtain ⟨rfl,e⟩ := e
   obtain ⟨L',q,rfl⟩ := ih L e
   exact ⟨y :: L',q.cons y,rfl⟩
 | swap x y t =>
  intro L e
  cases L with
  | nil => cases e
  | cons a L =>
   cases L with
   | nil => simp at e
   | cons b L =>
    simp only [List.map_cons,List.cons.injEq] at e
    obtain ⟨rfl,rfl,rfl⟩ := e
    exact ⟨b :: a :: L,.swap _ _ _,rfl⟩
 | trans _ _ ih1 ih2 =>
  intro L e
  obtain ⟨L1,q1,e1⟩ := ih2 L e
  obtain ⟨L2,q2,e2⟩ := ih1 L1 e1
  exact ⟨L2,q2.trans q1,e2⟩
def pk (q : Int × Int) : LK := [.at (.int q.1),.at (.int q.2)]
def pq : LK -> Int × Int
 | [.at (.int a),.at (.int b)] => (a,b)
 | _ => (0,0)
theorem pq_pk (q : Int × Int) : pq (pk q) = q := rfl
theorem pk_inj {a b : Int × Int} (h : pk a = pk b) : a = b := by have := congrArg pq h; simpa [pq_pk] using this
section
variable {X : Cx} {e : Expr} {p p2 pos pos2 : Pos} {ta : TE3} {kk : Nat}
theorem pair_at {h : Heap} {q : Int × Int} {a : Addr} (r : isLK h (pk q) a) : ∃ t u,h.IsTuple a #[.int q.1 t,.int q.2 u] := by
 obtain ⟨items,⟨o,n,e,c,d⟩,r⟩ := r
 generalize hv : items.toList = vs at r
 cases r with
 | cons r1 r =>
  cases r with
  | cons r2 r =>
   cases r
   obtain ⟨t,rfl⟩ := r1
   obtain ⟨u,rfl⟩ := r2
   have : items = #[.int q.1 t,.int q.2 u] := by apply Array.ext'; simpa using hv
   exact ⟨t,u,o,e,c,n,by rw [d,this]⟩
theorem pairsAt {h : Heap} : ∀ {Lo : List (LK × Addr)},(∀ x ∈ Lo,(∃ q,x.1 = pk q) /\ isLK h x.1 x.2) -> zbk h (Lo.map fun x => Value.ref x.2) (Lo.map fun x => pq x.1)
 | [],_ => .nil
 | x :: Lo,hh => by
  obtain ⟨⟨q,e⟩,r⟩ := hh x List.mem_cons_self
  rw [e] at r
  obtain ⟨t,u,ht⟩ := pair_at r
  exact .cons ⟨x.2,t,u,rfl,by show h.IsTuple x.2 #[.int (pq x.1).1 t,.int (pq x.1).2 u]; rw [e,pq_pk]; exact ht⟩ (pairsAt fun y hy => hh y (List.mem_cons_of_mem _ hy))
def srtPS (x : T) (G : Gp) (Q : VK3) : Prop := ∃ qs : List (Int × Int),zbm x G = some (qs.map pT) /\ qs.Nodup /\ qs.length < 64 /\ ∀ p,G p = none -> Q (.ref p) (updG G p (.lst ((zbf qs).map pT)))
theorem nodup_pk {qs : List (Int × Int)} (h : qs.Nodup) : (qs.map pk).Nodup := List.pairwise_map.mpr (h.imp fun n e => n (pk_inj e))
theorem srtPS_ok (hr : Room kk X.A) (hc : X.calm = true) : SetR X "sorted" (rSet X.kw srtPS) := by
 intro pins s σ H v u Q I r1 h
 obtain ⟨x,G,Q3,d,r,⟨qs,eu,nd,h64,h⟩,im⟩ := h
 refine set_seqLK (pl := true) (ks := qs.map pk) hr hc I r1 d r (by rw [eu,List.map_map]; rfl) (nodup_pk nd) (fun k hk => by obtain ⟨q,_,rfl⟩ := List.mem_map.mp hk; rfl) (fun _ k hk => by obtain ⟨q,_,rfl⟩ := List.mem_map.mp hk; rfl) (by simp; omega) fun h1 tk S ka ⟨L,ep,t,ho,sl⟩ e1 e4 k => ?_
 have sat : Sat X.w h1 S (L.map (ent X.w)).toArray ep t := ⟨ho,by simpa using sl.k,sl.p rfl,sl.l⟩
 obtain ⟨Lo,pLo,eLo⟩ := perm_map_ex (f := ent X.w) (ord_perm X.w S ep (L.map (ent X.w)).toArray) L (by simp)
 have pka : Lo.Perm ka := pLo.trans sl.pm
 have kq : ∀ x ∈ Lo,∃ q,x.1 = pk q := fun x hx => by
  have : x.1 ∈ ka.map (·.1) := List.mem_map.mpr ⟨x,pka.mem_iff.mp hx,rfl⟩
  rw [e1] at this
  obtain ⟨q,_,e⟩ := List.mem_map.mp this
  exact ⟨q,e.symm⟩
 have pqs : (Lo.map fun x => pq x.1).Perm qs := by
  have := (pka.map (·.1)).map pq
  rw [e1,List.map_map,List.map_map] at this
  refine this.trans ?_
  rw [show (pq ∘ pk) = id from funext pq_pk,List.map_id]
 have I1 : Inv X pins σ H { s with heap := h1,toks := tk } := I.kept k
 have pa : zbk h1 (Lo.map fun x => Value.ref x.2) (Lo.map fun x => pq x.1) := pairsAt fun x hx => ⟨kq x hx,isLK.kept (e4 x (pka.mem_iff.mp hx)).1 k⟩
 have ln : (Lo.map fun x => Value.ref x.2).length = qs.length := by rw [<- pqs.length_eq]; simp
 have szo : (L.map (ent X.w)).toArray.size = qs.length := by rw [<- pqs.length_eq]; simpa using pLo.length_eq.symm
 have ev : (ordOf X.w S ep (L.map (ent X.w)).toArray).toList.map (·.2) = Lo.map fun x => Value.ref x.2 := by rw [eLo,List.map_map]; rfl
 refine sortedP_of (s := { s with heap := h1,toks := tk }) pa (pqs.nodup_iff.mpr nd) (by omega) (fun A' E' Q' hA q' => src_collect (set_src (ep := ep) (t := t)) (by rw [hA]; exact I.ok.hd hc) sat (by rw [szo,sizeLine_eq]; omega) fun h' tk acc kp items => ?_) fun h2 h3 tk2 l e is k1 k2 hp pm so e1' => ?_
 ·have ea : acc.toList = (ordOf X.w S ep (L.map (ent X.w)).toArray).toList.map (·.2) := by
   refine List.ext_getElem? fun j => ?_
   rw [Array.getElem?_toList,List.getElem?_map,Array.getElem?_toList]
   cases e : acc[j]? with
   | some v => exact (items.2 j v e).symm
   | none =>
    have : acc.size <= j := by simpa using e
    rw [items.1] at this
    rw [Array.getElem?_eq_none (by rw [ord_size]; exact this)]; rfl
  rw [ea,ev] at *
  exact q' h' tk kp
 ·have I2 : Inv X pins σ H { s with heap := h2,toks := tk2 } := I1.kept k1
  have hn := I2.hok.fresh hp
  rw [List.length_map] at pm
  have hb : ∀ i ∈ is,i < Lo.length := fun i hi => List.mem_range.mp (pm.mem_iff.mp hi)
  have rv : zav (Lo.map fun x => V.ref x.2) (Lo.map fun x => Value.ref x.2) := by
   clear hb pm so e1' ev szo ln pa pqs kq pka eLo pLo
   induction Lo with
   | nil => exact .nil
   | cons x Lo ih => exact .cons rfl ih
  have I3 : Inv X pins σ (upd H l (.lst (is.map fun i => (Lo.map fun x => V.ref x.2).getD i .non))) { s with heap := h3,toks := tk2 } := I2.laid (t' := tk2) k2 hp ⟨by rw [List.length_map,pm.length_eq,List.length_range,sizeLine_eq]; rw [List.length_map] at ln; omega,_,e,vals_ix rv (by simpa using hb),e1'⟩
  have es : zbf (Lo.map fun x => pq x.1) = zbf qs := (sortP_eq ((zbI _).trans pqs) (sortP_lt (pqs.nodup_iff.mpr nd)))
  refine ⟨.ref l,_,I3,rfl,im _ _ _ _ (h l (r.free hn)) (Kp.new hn) (.ref l) (r.new (o := .lst ((zbf qs).map pT)) hn ⟨_,zag,?_⟩)⟩
  rw [<- es,<- so]
  have ds : Dens X.kw H (Lo.map fun x => V.ref x.2) ((Lo.map fun x => pq x.1).map pT) := by
   have key : ∀ Lq : List (LK × Addr),(∀ x ∈ Lq,x ∈ Lo) -> Dens X.kw H (Lq.map fun x => V.ref x.2) ((Lq.map fun x => pq x.1).map pT) := by
    intro Lq
    induction Lq with
    | nil => intro _; exact .nil
    | cons x Lq ih =>
     intro hm
     have hx := hm x List.mem_cons_self
     obtain ⟨q,eq⟩ := kq x hx
     refine .cons ?_ (ih fun y hy => hm y (List.mem_cons_of_mem _ hy))
     have dx := (e4 x (pka.mem_iff.mp hx)).2
     rw [eq] at dx
     show Den X.kw H (.ref x.2) (pT (pq x.1))
     rw [eq]
     exact dx
   exact key Lo fun x hx => hx
  exact (dens_ix ds (by simpa using hb)).mono (Kp.new hn)
theorem qsortpair (hr : Room kk X.A) (hm : X.mg "sorted" = none) (hs : X.mg "set" = none) (ha : QE X e ta) (hg : Gl X "sorted" := by rfl) (hg2 : Gl X "set" := by rfl) (hc : X.calm = true := by rfl)
  (e1 : starEach [e] X.env = [(false,eval e X.env)] := by rfl) (e2 : starEach [.Call (.Name "set" p2) [e] [] pos2] X.env = [(false,eval (.Call (.Name "set" p2) [e] [] pos2) X.env)] := by rfl) : QE X (.Call (.Name "sorted" p) [.Call (.Name "set" p2) [e] [] pos2] [] pos) (wSt2 srtPS ta) :=
 qset2 (srtPS_ok hr hc) hm boot_sorted hs ha hg hg2 (by decide) (by decide) e1 e2
end
end L3
set_option Elab.async false
set_option linter.all false
set_option maxRecDepth 100000
set_option maxHeartbeats 4000000
namespace L3
open PySem PySem.Spec PyProof.Rows L2
section
variable {X : Cx} {e : Expr} {es : List Expr} {pos p : Pos} {t : TA3}
theorem dens_bls {K : KW} {H : Hp} : ∀ {vs : List V} {bs : List Bool},Dens K H vs (bs.map T.bl) -> vs = bs.map V.bl
 | _,[],.nil => rfl
 | _,n :: r,.cons d ds => by cases d; rw [dens_bls ds]; rfl
theorem vals_bls : ∀ {bs : List Bool} {us : List Value},zav (bs.map V.bl) us -> us = bs.map Value.bool
 | [],_,.nil => rfl
 | b :: r,_,.cons d rr => by cases d; rw [vals_bls rr]; rfl
def all3 : List T -> Gp -> VK3 -> Prop := fun ts G Q => match ts with
 | [.ref q] => ∃ bs : List Bool,G q = some (.lst (bs.map T.bl)) /\ Q (.bl (bs.all id)) G
 | _ => False
theorem range_all (bs : List Bool) : (List.range bs.length).all (fun i => bs.getD i false) = bs.all id := by
 have e : bs = (List.range bs.length).map fun i => bs.getD i false := by
  refine List.ext_getElem (by simp) fun i h1 h2 => ?_
  simp [h1]
 conv => rhs; rw [e,List.all_map]
 rfl
theorem call_all3 (hc : X.calm = true) : zbG X (.builtin "all") (fun xs H Q => ∃ (q : Addr) (bs : List Bool),xs = [.ref q] /\ SqL X.K H q (bs.map V.bl) /\ Q (.bl (bs.all id)) H) := by
 intro pins s σ H xs us Q I rv h
 obtain ⟨q,bs,rfl,sq,h⟩ := h
 obtain ⟨u,rfl,ru⟩ := vals1 rv
 cases ru
 obtain ⟨its,rr,pl,hz⟩ := I.list sq
 have eb := vals_bls rr
 have hl : its.toArray.size = bs.length := by rw [eb]; simp
 obtain ⟨o,eo,_⟩ := id pl.isList
 refine call_all_walk (wpAny_pyIter_list pl.isList ⟨_,_,_,_,_,_,fun i => bs.getD i false,rfl,Walks.list (A := X.A.in1) (I.ok.hd hc) _ q (Nat.ne_of_lt (Heap.lt_size eo)) its.toArray,⟨⟨_,Heap.get?_push_size _ rfl,rfl,rfl⟩,pl.isList.push _⟩,?_,fun h' tk k => ?_⟩)
 ·intro i v s1 Q1 E1 hP hq
  rw [eb] at hP
  simp only [List.getElem?_toArray,List.getElem?_map,Option.map_eq_some_iff] at hP
  obtain ⟨b,e1,rfl⟩ := hP
  refine wpAny_truthy_bool ?_
  simpa [List.getD,e1] using hq
 ·have I1 : Inv X pins σ H { s with heap := h',toks := tk } := I.kept fun b o e => k b o (by rw [List.mem_singleton]; exact Nat.ne_of_lt (Heap.lt_size e)) (Heap.get?_push_of_some _ e)
  refine ⟨.bl _,H,I1,rfl,?_⟩
  rw [hl,range_all]
  exact h
theorem boot_all : bootBuiltins "all" = some (.builtin "all") := by rfl
theorem qall (hm : X.mg "all" = none) (ha : QA X (e :: es) t) (hg : Gl X "all" := by rfl) (he : starEach (e :: es) X.env = (false,eval e X.env) :: starEach es X.env := by rfl) (hpl : (backTo pos (starEach es X.env)).any (·.1) = false := by rfl) (hc : X.calm = true := by rfl) :
  QE X (.Call (.Name "all" p) (e :: es) [] pos) (wCB all3 t) := qcallB (call_all3 hc) (fun H G xs ts Q Q3 d r h im => by
 unfold all3 at h
 split at h
 ·obtain ⟨bs,eg,h⟩ := h
  cases d with
  | cons d1 d2 =>
   cases d2
   cases d1
   obtain ⟨ys,e1,ds⟩ := r _ _ eg
   rw [dens_bls ds] at e1
   exact ⟨_,bs,rfl,SqL.of e1,im _ G _ H h (Kp.refl _) (.bl _) r⟩
 ·exact h.elim) hm boot_all ha hg (by decide) (by decide) he hpl
end
end L3
set_option Elab.async false
set_option linter.all false
set_option maxRecDepth 100000
set_option maxHeartbeats 4000000
namespace L3
open PySem PySem.Spec PyProof.Rows L2
theorem star_c {v j} {pos : Pos} {es : List Expr} {env : Env} : starEach (.Constant v j pos :: es) env = (false,eval (.Constant v j pos) env) :: starEach es env := by rfl
theorem qaI {X : Cx} {i j} {pos : Pos} {es : List Expr} {t : TA3} (hr : QA X es t) : QA X (.Constant (.int i) j pos :: es) (za3 (wC (.int i)) t) := qa zaD hr star_c
end L3
namespace L3
open PySem PySem.Spec PyProof.Rows L2
end L3
set_option Elab.async false
set_option linter.all false
set_option maxRecDepth 100000
set_option maxHeartbeats 4000000
namespace L2
open PySem PySem.Spec PyProof.Rows
section
variable {prog : Program} {w : World} {A : Around} {R : Result -> Shared -> Prop} {I : Addr} {fp wr : List Addr} {n : Nat} {P : Nat -> Value -> Prop} {St : Nat -> Heap -> Prop}
end
section
variable {prog : Program} {w : World} {A : Around} {E : Value -> Shared -> Prop} {s : Shared}
end
section
variable {X : Cx}
end
end L2
namespace L3
open PySem PySem.Spec PyProof.Rows L2
section
variable {X : Cx} {e v : Expr} {pos p kp : Pos} {t : TA3} {tv : TE3}
end
end L3
set_option Elab.async false
set_option linter.all false
set_option maxRecDepth 100000
set_option maxHeartbeats 4000000
namespace L2
open PySem PySem.Spec PyProof.Rows
section
variable {prog : Program} {w : World} {A : Around} {E : Value -> Shared -> Prop} {s : Shared}
end
section
variable {X : Cx}
end
end L2
namespace L3
open PySem PySem.Spec PyProof.Rows L2
section
variable {X : Cx} {a : Expr} {pos p p2 pos2 : Pos} {t : TA3}
end
end L3
set_option Elab.async false
set_option linter.all false
set_option maxRecDepth 100000
set_option maxHeartbeats 4000000
namespace Rm
open PySem L2 L3
theorem updG_app (G : Gp) (a : Addr) (o : GO) (b : Addr) : updG G a o b = if b = a then some o else G b := rfl
theorem updG_swap {G : Gp} {a d : Addr} {x y z : GO} (h : d ≠ a) : updG (updG (updG G a x) d y) a z = updG (updG G d y) a z := by
 funext b; simp only [updG_app]; by_cases e : b = a <;> simp [e]
theorem updG_swap2 {G : Gp} {a q d : Addr} {x y z u : GO} (h1 : q ≠ a) (h2 : d ≠ a) : updG (updG (updG (updG G a x) q y) d z) a u = updG (updG (updG G q y) d z) a u := by
 funext b; simp only [updG_app]; by_cases e : b = a <;> simp [e]
theorem enum_drop {W : List Int} {k : Nat} (h : k < W.length) : (zbR (W.map T.int)).drop k = .tup [.int k,.int (W.getD k 0)] :: (zbR (W.map T.int)).drop (k + 1) := by
 have hl : k < (zbR (W.map T.int)).length := by simp [zbR,h]
 rw [List.drop_eq_getElem_cons hl]
 congr 1
 simp [zbR,h]
theorem rng_drop {m k : Nat} (h : k < m) : (rngT 0 m).drop k = .int k :: (rngT 0 m).drop (k + 1) := by
 have hl : k < (rngT 0 m).length := by simp [rngT,h]
 rw [List.drop_eq_getElem_cons hl]
 congr 1
 simp [rngT]
def oI : Option Int -> T
 | none => .non
 | some i => .int i
def oP : Option (Int × Int) -> T
 | none => .non
 | some q => .tup [.int q.1,.int q.2]
def zbV : M.Let -> T
 | .prepare b => .tup [.str "prepare",.int b]
 | .promise b v l => .tup [.str "promise",.int b,.int v,oP l]
 | .ask b w => .tup [.str "ask",.int b,.int w]
 | .vote b v w => .tup [.str "vote",.int b,.int v,.int w]
def oK : Option (Int × Int) -> A1
 | none => .at .non
 | some q => .tup [.int q.1,.int q.2]
def letK : M.Let -> LK
 | .prepare b => [.at (.str "prepare"),.at (.int b)]
 | .promise b v l => [.at (.str "promise"),.at (.int b),.at (.int v),oK l]
 | .ask b w => [.at (.str "ask"),.at (.int b),.at (.int w)]
 | .vote b v w => [.at (.str "vote"),.at (.int b),.at (.int v),.at (.int w)]
theorem lkT_letK (x : M.Let) : lkT (letK x) = zbV x := by
 cases x with
 | promise b v l => cases l <;> rfl
 | _ => rfl
theorem lkOf_letT (x : M.Let) : lkOf (zbV x) = some (letK x) := by rw [<- lkT_letK]; exact lkOf_lkT _
theorem keyOf_letT (x : M.Let) : keyOf (zbV x) = none := by cases x <;> rfl
theorem ok1 : PyData.strOk ("prepare" : Str) = true := by decide +kernel
theorem ok2 : PyData.strOk ("promise" : Str) = true := by decide +kernel
theorem ok3' : PyData.strOk ("ask" : Str) = true := by decide +kernel
theorem ok4 : PyData.strOk ("vote" : Str) = true := by decide +kernel
theorem okLK_letK (x : M.Let) : okLK (letK x) = true := by
 cases x with
 | prepare b => simp [letK,okLK,A1.ok,A0.ok,ok1]
 | promise b v l => cases l <;> simp [letK,okLK,A1.ok,A0.ok,ok2,oK]
 | ask b w => simp [letK,okLK,A1.ok,A0.ok,ok3']
 | vote b v w => simp [letK,okLK,A1.ok,A0.ok,ok4]
theorem s12 : ("prepare" : Str) ≠ "promise" := by decide
theorem s13 : ("prepare" : Str) ≠ "ask" := by decide
theorem s14 : ("prepare" : Str) ≠ "vote" := by decide
theorem s23 : ("promise" : Str) ≠ "ask" := by decide
theorem s24 : ("promise" : Str) ≠ "vote" := by decide
theorem s34 : ("ask" : Str) ≠ "vote" := by decide
theorem letK_inj {x y : M.Let} (h : letK x = letK y) : x = y := by
 have oi : ∀ {l r : Option (Int × Int)},oK l = oK r -> l = r := by
  intro l r h
  cases l <;> cases r <;> simp [oK] at h
  ·rfl
  ·rename_i a b; cases a; cases b; simp_all
 cases x <;> cases y <;> simp [letK,s12,s13,s14,s23,s24,s34,s12.symm,s13.symm,s14.symm,s23.symm,s24.symm,s34.symm] at h <;> simp_all
 ·exact ⟨by omega,oi h.2.2⟩
 ·omega
def wrO (L : List M.Let) : GO := match L with
 | [] => .dK []
 | x :: r => .dT ((x :: r).map fun y => (letK y,.bl true))
theorem val_wr (x : M.Let) : ∀ (L : List M.Let),(valKT (L.map fun y => (letK y,T.bl true)) (letK x)).isSome = decide (x ∈ L)
 | [] => by simp [valKT]
 | y :: r => by
  have ih := val_wr x r
  unfold valKT at ih ⊢
  rw [List.map_cons,List.find?_cons]
  by_cases e : y = x
  ·subst e; simp
  ·have : ¬ letK y = letK x := fun z => e (letK_inj z)
   simp only [this,decide_false]
   rw [ih]
   simp [Ne.symm e]
theorem wr_get {G : Gp} {pw : Addr} {L : List M.Let} (x : M.Let) (h : G pw = some (wrO L)) : ∃ r,dGet (.ref pw) (zbV x) G = some r /\ r.isSome = decide (x ∈ L) := by
 cases L with
 | nil => exact ⟨none,by simp [dGet,h,wrO,dGetK,keyOf_letT,lkOf_letT,okLK_letK],by simp⟩
 | cons y r => exact ⟨_,by simp only [dGet,h,wrO,dGetT,lkOf_letT,okLK_letK,if_true],val_wr x (y :: r)⟩
theorem wr_in {G : Gp} {pw : Addr} {L : List M.Let} {x : T} (h : G pw = some (wrO L)) : inSeq x (.ref pw) G = none := by
 have : zbm (.ref pw) G = none := by
  cases L with
  | nil => simp [zbm,h,wrO]
  | cons y r => simp [zbm,h,wrO]
 simp [inSeq,this]
theorem wr_set {G : Gp} {pw : Addr} {L : List M.Let} {x : M.Let} {Q : Gp -> Prop} (h : G pw = some (wrO L)) (hx : x ∉ L) (hl : L.length <= 1000000) (q : Q (updG G pw (wrO (L ++ [x])))) : set3 (.ref pw) (zbV x) (.bl true) G Q := by
 cases L with
 | nil =>
  simp only [set3,h,wrO,keyOf_letT,lkOf_letT]
  exact ⟨okLK_letK x,q⟩
 | cons y r =>
  simp only [set3,h,wrO,lkOf_letT]
  refine ⟨okLK_letK x,by simpa using hl,?_⟩
  rw [putKT_new]
  ·have : wrO ((y :: r) ++ [x]) = .dT (((y :: r).map fun y => (letK y,T.bl true)) ++ [(letK x,.bl true)]) := by simp [wrO]
   rw [this] at q
   exact q
  ·intro hm
   rw [List.map_map] at hm
   obtain ⟨z,hz,e⟩ := List.mem_map.mp hm
   have : z = x := letK_inj e
   subst this
   exact hx hz
def fP (row wr : T) : List (Str × T) := [("row",row),("written",wr)]
def fA (nu st wi ma ba fr nt ak : T) : List (Str × T) := [("number",nu),("step",st),("wish",wi),("many",ma),("ballot",ba),("fresh",fr),("noted",nt),("asked",ak)]
def fV (nu bo la : T) : List (Str × T) := [("number",nu),("bound",bo),("last",la)]
def fR (ma pi as vs : T) : List (Str × T) := [("many",ma),("pile",pi),("askers",as),("voters",vs)]
section
variable {nu st wi ma ba fr nt ak x row wr bo la pi as vs : T}
theorem fP_row : (fP row wr).lookup ("row" : Str) = some row := rfl
theorem fP_written : (fP row wr).lookup ("written" : Str) = some wr := rfl
theorem fA_number : (fA nu st wi ma ba fr nt ak).lookup ("number" : Str) = some nu := rfl
theorem fA_step : (fA nu st wi ma ba fr nt ak).lookup ("step" : Str) = some st := rfl
theorem fA_wish : (fA nu st wi ma ba fr nt ak).lookup ("wish" : Str) = some wi := rfl
theorem fA_many : (fA nu st wi ma ba fr nt ak).lookup ("many" : Str) = some ma := rfl
theorem zcb : (fA nu st wi ma ba fr nt ak).lookup ("ballot" : Str) = some ba := rfl
theorem fA_fresh : (fA nu st wi ma ba fr nt ak).lookup ("fresh" : Str) = some fr := rfl
theorem fA_noted : (fA nu st wi ma ba fr nt ak).lookup ("noted" : Str) = some nt := rfl
theorem fA_asked : (fA nu st wi ma ba fr nt ak).lookup ("asked" : Str) = some ak := rfl
theorem fV_number : (fV nu bo la).lookup ("number" : Str) = some nu := rfl
theorem fV_bound : (fV nu bo la).lookup ("bound" : Str) = some bo := rfl
theorem fV_last : (fV nu bo la).lookup ("last" : Str) = some la := rfl
theorem fR_many : (fR ma pi as vs).lookup ("many" : Str) = some ma := rfl
theorem fR_pile : (fR ma pi as vs).lookup ("pile" : Str) = some pi := rfl
theorem fR_askers : (fR ma pi as vs).lookup ("askers" : Str) = some as := rfl
theorem fR_voters : (fR ma pi as vs).lookup ("voters" : Str) = some vs := rfl
end
def cellI (ns : List Int) (k : Nat) : Int := ns.getD k 0
theorem eqvI (i j : Int) : PyData.eqv (.int i) (.int j) = decide (i = j) := by rw [show PyData.eqv (.int i) (.int j) = (i == j) from rfl]; exact Bool.beq_eq_decide_eq i j
theorem at0 {x : T} {l : List T} : atI (x :: l) 0 = some x := zb1 (j := 0) (by simp)
theorem at1 {x y : T} {l : List T} : atI (x :: y :: l) 1 = some y := zb1 (j := 1) (by simp)
theorem at2 {x y z : T} {l : List T} : atI (x :: y :: z :: l) 2 = some z := zb1 (j := 2) (by simp)
theorem at3 {x y z u : T} {l : List T} : atI (x :: y :: z :: u :: l) 3 = some u := zb1 (j := 3) (by simp)
theorem compL_fm {g : TG3} {tc : TT3} {te : TE3} {S : Gp -> Prop} {τ : St3} {G : Gp} {Q : List T -> Gp -> Prop} (p : T -> Bool) (h : T -> T) (hS : S G) : ∀ (ts acc : List T),
  (∀ x ∈ ts,∀ R : St3 -> Gp -> Prop,(∀ τ2,(∀ R' : Bool -> Gp -> Prop,R' (p x) G -> tc τ2 G R') -> (p x = true -> ∀ R' : VK3,R' (h x) G -> te τ2 G R') -> R τ2 G) -> g x τ G R) -> Q (acc ++ (ts.filter p).map h) G -> compL g tc te S ts τ acc G Q
 | [],acc,_,q => ⟨hS,by simpa using q⟩
 | x :: r,acc,hx,q => by
  refine ⟨hS,hx x List.mem_cons_self _ fun τ2 h1 h2 => h1 _ ?_⟩
  by_cases c : p x = true
  ·rw [if_pos c]
   refine h2 c _ (compL_fm p h hS r (acc ++ [h x]) (fun y hy => hx y (List.mem_cons_of_mem _ hy)) ?_)
   rw [List.filter_cons_of_pos c] at q
   simpa using q
  ·rw [if_neg c]
   refine compL_fm p h hS r acc (fun y hy => hx y (List.mem_cons_of_mem _ hy)) ?_
   rw [List.filter_cons_of_neg c] at q
   exact q
theorem zbO {te : TE3} {S : Gp -> Prop} {τ : St3} {G : Gp} {Q : List T -> Gp -> Prop} (h : T -> T) (hS : S G) (ts : List T) (hx : ∀ x ∈ ts,∀ R : VK3,R (h x) G -> te (τ.set 0 (some x)) G R) (q : Q (ts.map h) G) : compL (hName 0) wTrue te S ts τ [] G Q :=
 compL_fm (fun _ => true) h hS ts [] (fun x hm R k => k _ (fun R' r => r) fun _ R' r => hx x hm R' r) (by rw [List.filter_eq_self.mpr (fun _ _ => rfl)]; exact q)
section
variable {K : PySem.W.Frag} {G : Gp} {p C : Addr} {fs : List (Str × T)} {f m : Str} {y v : T}
theorem zai {Q : Gp -> Prop} (h : G p = some (.ins C fs)) (a : Att K C f) (l : Nat.blt fs.length 1000 = true) (q : Q (updG G p (.ins C (putG f y fs)))) : putAtt K (.ref p) y f G Q := by
 have l' : fs.length < 1000 := by simpa using l
 simp only [putAtt,h]; exact ⟨a,l',q⟩
theorem zad {Q : VK3} (h : G p = some (.ins C fs)) (l : fs.lookup f = some v) (a : Att K C f) (q : Q v G) : fldAt K (.ref p) G f Q := by
 simp only [fldAt,h,l]; exact ⟨a,q⟩
theorem ixA_lst {ts : List T} {i : Nat} {Q : VK3} (h : G p = some (.lst ts)) (ht : ts[i]? = some v) (q : Q v G) : ixA (.ref p) (.int i) G Q := by
 have e : atI ts (i : Int) = some v := zb1 ht
 simp only [ixA,dGet,h,ix3,zbm,e]; exact q
theorem zak {ts : List T} {i : Nat} {Q : VK3} (ht : ts[i]? = some v) (q : Q v G) : ixA (.tup ts) (.int i) G Q := by
 have e : atI ts (i : Int) = some v := zb1 ht
 simp only [ixA,dGet,ix3,zbm,e]; exact q
theorem onLst_at {us : List T} {Q : Prop} (h : G p = some (.lst us)) (q : Q) : onLst (.ref p) G Q := by
 simp only [onLst,h]; exact q
theorem app3_at {us : List T} {Q : VK3} (h : G p = some (.lst us)) (l : us.length <= 1000000) (q : Q .non (updG G p (.lst (us ++ [y])))) : app3 (.ref p) [y] G Q := by
 simp only [app3,h]; exact ⟨l,q⟩
theorem zaj {Q : Prop} (h : G p = some (.ins C fs)) (l : fs.lookup m = none) (q : Q) : onIns (.ref p) C m G Q := by
 unfold onIns; dsimp only; rw [h]; exact ⟨⟨rfl,l⟩,q⟩
end
inductive Slot where
 | r | p | pr | pw | la | lv | as (i : Nat) | nt (i : Nat) | ak (i : Nat) | vs (v : Nat)
 deriving DecidableEq
abbrev Adr := Slot -> Addr
structure Cz where
 P : Addr
 A : Addr
 V : Addr
 R : Addr
theorem len0 {α : Type} {us : List α} (h : us.length = 0) : us = [] := List.length_eq_zero_iff.mp h
theorem lenS {α : Type} {us : List α} {n : Nat} (h : us.length = n + 1) : ∃ a r,us = a :: r /\ r.length = n := by
 cases us with
 | nil => cases h
 | cons a r => exact ⟨a,r,rfl,Nat.succ.inj h⟩
theorem len1 {α : Type} {us : List α} (h : us.length = 1) : ∃ a,us = [a] := by
 obtain ⟨a,r,rfl,g⟩ := lenS h
 cases len0 g
 exact ⟨a,rfl⟩
theorem len2 {α : Type} {us : List α} (h : us.length = 2) : ∃ a b,us = [a,b] := by
 obtain ⟨a,r,rfl,g⟩ := lenS h
 obtain ⟨b,rfl⟩ := len1 g
 exact ⟨a,b,rfl⟩
theorem len3' {α : Type} {us : List α} (h : us.length = 3) : ∃ a b c,us = [a,b,c] := by
 obtain ⟨a,r,rfl,g⟩ := lenS h
 obtain ⟨b,c,rfl⟩ := len2 g
 exact ⟨a,b,c,rfl⟩
theorem len4 {α : Type} {us : List α} (h : us.length = 4) : ∃ a b c d,us = [a,b,c,d] := by
 obtain ⟨a,r,rfl,g⟩ := lenS h
 obtain ⟨b,c,d,rfl⟩ := len3' g
 exact ⟨a,b,c,d,rfl⟩
theorem len5 {α : Type} {us : List α} (h : us.length = 5) : ∃ a b c d e,us = [a,b,c,d,e] := by
 obtain ⟨a,r,rfl,g⟩ := lenS h
 obtain ⟨b,c,d,e,rfl⟩ := len4 g
 exact ⟨a,b,c,d,e,rfl⟩
abbrev mkZ (p a v r : Addr) : Cz := ⟨p,a,v,r⟩
structure At (K : PySem.W.Frag) (Z : Cz) : Prop where
 row : Att K Z.P "row"
 written : Att K Z.P "written"
 number : Att K Z.A "number"
 step : Att K Z.A "step"
 wish : Att K Z.A "wish"
 many : Att K Z.A "many"
 ballot : Att K Z.A "ballot"
 fresh : Att K Z.A "fresh"
 noted : Att K Z.A "noted"
 asked : Att K Z.A "asked"
 vnumber : Att K Z.V "number"
 bound : Att K Z.V "bound"
 last : Att K Z.V "last"
 rmany : Att K Z.R "many"
 pile : Att K Z.R "pile"
 askers : Att K Z.R "askers"
 voters : Att K Z.R "voters"
def live (S : P.R) : Slot -> Prop
 | .as i => i < S.wishes.length
 | .nt i => i < S.wishes.length
 | .ak i => i < S.wishes.length
 | .vs v => v < S.many
 | _ => True
def notO (l : List (Nat × Option (Int × Int))) : GO := .dK (l.map fun p => (Sum.inl (p.1 : Int),oP p.2))
def akO (l : List (Int × List Nat)) : GO := .dK (l.map fun p => (Sum.inl p.1,T.tup (p.2.map fun (v : Nat) => T.int v)))
def obj (Z : Cz) (S : P.R) (A : Adr) : Slot -> GO
 | .r => .ins Z.R (fR (.int S.many) (.ref (A .p)) (.ref (A .la)) (.ref (A .lv)))
 | .p => .ins Z.P (fP (.ref (A .pr)) (.ref (A .pw)))
 | .pr => .lst (S.letters.map zbV)
 | .pw => wrO S.letters
 | .la => .lst ((List.range S.wishes.length).map fun i => .ref (A (.as i)))
 | .lv => .lst ((List.range S.many).map fun i => .ref (A (.vs i)))
 | .as i => .ins Z.A (fA (.int i) (.int S.wishes.length) (.int (S.wishes.getD i 0)) (.int S.many) (oI (S.askers i).ballot) (.int (S.askers i).fresh) (.ref (A (.nt i))) (.ref (A (.ak i))))
 | .nt i => notO (S.askers i).noted
 | .ak i => akO (S.askers i).asked
 | .vs v => .ins Z.V (fV (.int v) (oI (S.voters v).promised) (oP (S.voters v).voted))
structure RoomAt (Z : Cz) (G : Gp) (A : Adr) (S : P.R) : Prop where
 at' : ∀ s,live S s -> G (A s) = some (obj Z S A s)
 inj : ∀ s t,live S s -> live S t -> A s = A t -> s = t
def own (A : Adr) (S : P.R) (a : Addr) : Prop := ∃ s,live S s /\ A s = a
def Fr (G : Gp) (A : Adr) (S : P.R) (G' : Gp) (A' : Adr) (S' : P.R) : Prop := ∀ a o,¬ own A S a -> G a = some o -> G' a = some o /\ ¬ own A' S' a
section
variable {Z : Cz} {G G' : Gp} {A A' : Adr} {S S' : P.R}
theorem RoomAt.ne (R : RoomAt Z G A S) {s t : Slot} (hs : live S s) (ht : live S t) (h : s ≠ t) : A s ≠ A t := fun e => h (R.inj s t hs ht e)
theorem RoomAt.free (R : RoomAt Z G A S) {a : Addr} (h : G a = none) : ¬ own A S a := by
 rintro ⟨s,hs,rfl⟩
 rw [R.at' s hs] at h; cases h
theorem RoomAt.nown (R : RoomAt Z G A S) {a : Addr} (h : ¬ own A S a) {s : Slot} (hs : live S s) : A s ≠ a := fun e => h ⟨s,hs,e⟩
theorem RoomAt.beside (R : RoomAt Z G A S) {a : Addr} {o : GO} (h : ¬ own A S a) : RoomAt Z (updG G a o) A S :=
 ⟨fun s hs => by rw [zac (R.nown h hs)]; exact R.at' s hs,R.inj⟩
theorem RoomAt.put (R : RoomAt Z G A S) {s : Slot} (hs : live S s) (hl : ∀ t,live S' t ↔ live S t) (h : ∀ t,live S t -> t ≠ s -> obj Z S' A t = obj Z S A t) : RoomAt Z (updG G (A s) (obj Z S' A s)) A S' := by
 refine ⟨fun t ht => ?_,fun t u ht hu => R.inj t u ((hl t).mp ht) ((hl u).mp hu)⟩
 by_cases e : t = s
 ·subst e; exact zaa
 ·rw [zac (R.ne ((hl t).mp ht) hs e),h t ((hl t).mp ht) e]; exact R.at' t ((hl t).mp ht)
def spLaw : Sp3 := fun ts G Q => ∃ ns : List Int,ts = [.fro (ns.map T.int)] /\ ns.length <= 63 /\ (∀ a,G a = none) /\ ∀ G',Q (.bl true) G'
theorem law_start {K : KW} {H : Hp} {a : Addr} {ns : List Int} {E : XK} (hl : ns.length <= 63) (hO : Only H) (hS : SqL K.k H a (ns.map V.int)) : lSp K spLaw [.ref a] H (fun v _ => v = .bl true) E := by
 have hF : SqF K.k H a (ns.map V.int) := by
  rcases hS with (h | ⟨o,h⟩) | h
  ·rcases hO a with z | ⟨o,xs,z⟩ <;> rw [h] at z <;> cases z
  ·exact .inl ⟨o,h⟩
  ·exact .inr h
 exact ⟨[.fro (ns.map T.int)],fun _ => none,fun t _ => t = .bl true,.cons (.fro hF (Dens.ints ns))   .nil,(fun a o e => by simp at e),⟨ns,rfl,hl,fun _ => rfl,fun _ => rfl⟩,fun t G' v H' q _ d _ => by subst q; cases d; rfl⟩
theorem Fr.refl : Fr G A S G A S := fun a o h e => ⟨e,h⟩
theorem Fr.trans {G2 : Gp} {A2 : Adr} {S2 : P.R} (f : Fr G A S G' A' S') (g : Fr G' A' S' G2 A2 S2) : Fr G A S G2 A2 S2 := fun a o h e =>
 let ⟨h1,h2⟩ := f a o h e; g a o h2 h1
theorem Fr.put {s : Slot} {o : GO} (hs : live S s) (hl : ∀ t,live S' t ↔ live S t) : Fr G A S (updG G (A s) o) A S' := fun a u h e =>
 ⟨by rw [zac (fun z => h ⟨s,hs,z.symm⟩)]; exact e,fun ⟨t,ht,e'⟩ => h ⟨t,(hl t).mp ht,e'⟩⟩
end
end Rm
set_option Elab.async false
set_option linter.all false
set_option maxRecDepth 100000
set_option maxHeartbeats 4000000
namespace Rm
open PySem L2 L3
def Ext (G G' : Gp) : Prop := ∀ a o,G a = some o -> G' a = some o
theorem Ext.refl {G : Gp} : Ext G G := fun _ _ h => h
theorem Ext.trans {G G1 G2 : Gp} (a : Ext G G1) (b : Ext G1 G2) : Ext G G2 := fun x o h => b x o (a x o h)
theorem Ext.new {G : Gp} {a : Addr} {o : GO} (h : G a = none) : Ext G (updG G a o) := fun b u e => by rw [zac (neG e h)]; exact e
theorem Ext.none {G G' : Gp} (x : Ext G G') {a : Addr} (h : G' a = none) : G a = none := by
 cases e : G a with
 | none => rfl
 | some o => rw [x a o e] at h; cases h
section
variable {Z : Cz} {G G' : Gp} {A A' : Adr} {S S' : P.R}
theorem RoomAt.ext (R : RoomAt Z G A S) (x : Ext G G') : RoomAt Z G' A S := ⟨fun s hs => x _ _ (R.at' s hs),R.inj⟩
theorem Fr.ext (x : Ext G G') : Fr G A S G' A S := fun a o h e => ⟨x a o e,h⟩
structure Bk (Lv : Slot -> Prop) (O : Adr -> Slot -> GO) (G0 : Gp) (A : Adr) (G : Gp) : Prop where
 at' : ∀ s,Lv s -> G (A s) = some (O A s)
 inj : ∀ s t,Lv s -> Lv t -> A s = A t -> s = t
 new : ∀ s,Lv s -> G0 (A s) = none
 old : Ext G0 G
theorem Bk.start {O : Adr -> Slot -> GO} {G0 : Gp} : Bk (fun _ => False) O G0 A G0 := ⟨fun _ h => h.elim,fun _ _ h => h.elim,fun _ h => h.elim,Ext.refl⟩
theorem Bk.add {Lv : Slot -> Prop} {O : Adr -> Slot -> GO} {G0 : Gp} (B : Bk Lv O G0 A G) {s : Slot} {a : Addr} (hs : ¬ Lv s) (ha : G a = none) (hO : ∀ t,Lv t -> O (M.upd A s a) t = O A t) :
  Bk (fun t => Lv t ∨ t = s) O G0 (M.upd A s a) (updG G a (O (M.upd A s a) s)) := by
 have ne : ∀ t,Lv t -> M.upd A s a t = A t := fun t ht => by
  unfold M.upd; rw [if_neg]; rintro rfl; exact hs ht
 have es : M.upd A s a s = a := by unfold M.upd; rw [if_pos rfl]
 have na : ∀ t,Lv t -> A t ≠ a := fun t ht e => by have := B.at' t ht; rw [e,ha] at this; cases this
 refine ⟨fun t ht => ?_,fun t u ht hu e => ?_,fun t ht => ?_,fun b o e => ?_⟩
 ·rcases ht with ht | rfl
  ·rw [ne t ht,zac (na t ht),hO t ht]; exact B.at' t ht
  ·rw [es,zaa]
 ·rcases ht with ht | rfl <;> rcases hu with hu | rfl
  ·rw [ne t ht,ne u hu] at e; exact B.inj t u ht hu e
  ·rw [ne t ht,es] at e; exact absurd e (na t ht)
  ·rw [ne u hu,es] at e; exact absurd e.symm (na u hu)
  ·rfl
 ·rcases ht with ht | rfl
  ·rw [ne t ht]; exact B.new t ht
  ·rw [es]; exact B.old.none ha
 ·rw [zac (neG (B.old b o e) ha)]; exact B.old b o e
theorem Bk.lv {Lv Lv' : Slot -> Prop} {O : Adr -> Slot -> GO} {G0 : Gp} (B : Bk Lv O G0 A G) (h : ∀ s,Lv' s -> Lv s) : Bk Lv' O G0 A G :=
 ⟨fun s hs => B.at' s (h s hs),fun s t hs ht => B.inj s t (h s hs) (h t ht),fun s hs => B.new s (h s hs),B.old⟩
def LvA (k : Nat) : Slot -> Prop
 | .p => True
 | .pr => True
 | .pw => True
 | .as j => j < k
 | .nt j => j < k
 | .ak j => j < k
 | _ => False
def LvV (n k : Nat) : Slot -> Prop
 | .p => True
 | .pr => True
 | .pw => True
 | .la => True
 | .as j => j < n
 | .nt j => j < n
 | .ak j => j < n
 | .vs v => v < k
 | _ => False
theorem updA (A : Adr) (s t : Slot) (a : Addr) : M.upd A s a t = if t = s then a else A t := rfl
theorem Bk.asker {W : List Int} {m i : Nat} {G0 : Gp} (B : Bk (LvA i) (obj Z (P.new W m)) G0 A G) {x q d : Addr} (hx : G x = none) (hq : G q = none) (hd : G d = none) (n1 : q ≠ x) (n2 : d ≠ x) (n3 : q ≠ d) :
  ∃ A',(∀ t,LvA i t -> A' t = A t) /\ A' (.as i) = x /\ Bk (LvA (i + 1)) (obj Z (P.new W m)) G0 A' (updG (updG (updG G q (.dK [])) d (.dK [])) x (.ins Z.A (fA (.int i) (.int W.length) (.int (W.getD i 0)) (.int m) .non (.int 0) (.ref q) (.ref d)))) := by
 have st : ∀ (A1 : Adr) (s : Slot) (a : Addr),(s = .nt i ∨ s = .ak i ∨ s = .as i) -> ∀ t,LvA i t -> obj Z (P.new W m) (M.upd A1 s a) t = obj Z (P.new W m) A1 t := by
  intro A1 s a hs t ht
  cases t with
  | as j =>
   have hj : j ≠ i := by simp only [LvA] at ht; omega
   rcases hs with rfl | rfl | rfl <;> simp [obj,updA,hj]
  | p => rcases hs with rfl | rfl | rfl <;> simp [obj,updA]
  | pr => simp [obj]
  | pw => simp [obj]
  | nt j => simp [obj]
  | ak j => simp [obj]
  | r => exact ht.elim
  | la => exact ht.elim
  | lv => exact ht.elim
  | vs v => exact ht.elim
 have B1 := B.add (s := .nt i) (a := q) (by simp [LvA]) hq (st A _ q (.inl rfl))
 have B2 := B1.add (s := .ak i) (a := d) (by simp [LvA]) (by rw [zac (Ne.symm n3)]; exact hd) (fun t ht => by
  rcases ht with ht | rfl
  ·exact st _ _ d (.inr (.inl rfl)) t ht
  ·simp [obj])
 have B3 := B2.add (s := .as i) (a := x) (by simp [LvA]) (by rw [zac (Ne.symm n2),zac (Ne.symm n1)]; exact hx) (fun t ht => by
  rcases ht with (ht | rfl) | rfl
  ·exact st _ _ x (.inr (.inr rfl)) t ht
  ·simp [obj]
  ·simp [obj])
 have B4 := B3.lv (Lv' := LvA (i + 1)) fun t ht => by
  cases t <;> simp [LvA] at ht ⊢ <;> omega
 refine ⟨M.upd (M.upd (M.upd A (.nt i) q) (.ak i) d) (.as i) x,fun t ht => ?_,?_,?_⟩
 case refine_3 =>
  have e1 : obj Z (P.new W m) (M.upd A (.nt i) q) (.nt i) = .dK [] := by simp [obj,P.new,notO]
  have e2 : obj Z (P.new W m) (M.upd (M.upd A (.nt i) q) (.ak i) d) (.ak i) = .dK [] := by simp [obj,P.new,akO]
  have e3 : obj Z (P.new W m) (M.upd (M.upd (M.upd A (.nt i) q) (.ak i) d) (.as i) x) (.as i) = .ins Z.A (fA (.int i) (.int W.length) (.int (W.getD i 0)) (.int m) .non (.int 0) (.ref q) (.ref d)) := by
   simp [obj,P.new,updA,oI]
  rw [e1,e2,e3] at B4
  exact B4
 ·cases t <;> simp only [LvA] at ht <;> simp [updA]
  all_goals (intro h; omega)
 ·simp [updA]
theorem Bk.voter {W : List Int} {m i : Nat} {G0 : Gp} (B : Bk (LvV W.length i) (obj Z (P.new W m)) G0 A G) {x : Addr} (hx : G x = none) :
  ∃ A',(∀ t,LvV W.length i t -> A' t = A t) /\ A' (.vs i) = x /\ Bk (LvV W.length (i + 1)) (obj Z (P.new W m)) G0 A' (updG G x (.ins Z.V (fV (.int i) .non .non))) := by
 have B1 := B.add (s := .vs i) (a := x) (by simp [LvV]) hx (fun t ht => by
  cases t with
  | lv => exact ht.elim
  | r => exact ht.elim
  | _ => simp [obj,updA])
 have B4 := B1.lv (Lv' := LvV W.length (i + 1)) fun t ht => by
  cases t <;> simp [LvV] at ht ⊢ <;> omega
 refine ⟨M.upd A (.vs i) x,fun t ht => ?_,?_,?_⟩
 case refine_3 =>
  have e3 : obj Z (P.new W m) (M.upd A (.vs i) x) (.vs i) = .ins Z.V (fV (.int i) .non .non) := by simp [obj,P.new,oI,oP]
  rw [e3] at B4
  exact B4
 ·cases t <;> simp only [LvV] at ht <;> simp [updA]
  all_goals (intro h; omega)
 ·simp [updA]
theorem Bk.rebase {Lv : Slot -> Prop} {O : Adr -> Slot -> GO} {G0 : Gp} (B : Bk Lv O G0 A G) {r : Addr} {o u : GO} (h : G0 r = some o) : Bk Lv O (updG G0 r u) A (updG G r u) := by
 have ne : ∀ s,Lv s -> A s ≠ r := fun s hs e => by have := B.new s hs; rw [e,h] at this; cases this
 refine ⟨fun s hs => by rw [zac (ne s hs)]; exact B.at' s hs,B.inj,fun s hs => by rw [zac (ne s hs)]; exact B.new s hs,fun a w e => ?_⟩
 by_cases c : a = r
 ·subst c; rw [zaa] at e ⊢; exact e
 ·rw [zac c] at e ⊢; exact B.old a w e
theorem Bk.pile {W : List Int} {m : Nat} {G0 : Gp} {p q d : Addr} (hp : G0 p = none) (hq : G0 q = none) (hd : G0 d = none) (n1 : q ≠ p) (n2 : d ≠ p) (n3 : q ≠ d) :
  ∃ A,A .p = p /\ Bk (LvA 0) (obj Z (P.new W m)) G0 A (updG (updG (updG G0 q (.lst [])) d (.dK [])) p (.ins Z.P (fP (.ref q) (.ref d)))) := by
 have B0 : Bk (fun _ => False) (obj Z (P.new W m)) G0 (fun _ => p) G0 := Bk.start
 have B1 := B0.add (s := .pr) (a := q) (by simp) hq (fun t ht => ht.elim)
 have B2 := B1.add (s := .pw) (a := d) (by simp) (by rw [zac (Ne.symm n3)]; exact hd) (fun t ht => by
  rcases ht with ht | rfl
  ·exact ht.elim
  ·simp [obj])
 have B3 := B2.add (s := .p) (a := p) (by simp) (by rw [zac (Ne.symm n2),zac (Ne.symm n1)]; exact hp) (fun t ht => by
  rcases ht with (ht | rfl) | rfl
  ·exact ht.elim
  ·simp [obj]
  ·simp [obj])
 have B4 := B3.lv (Lv' := LvA 0) fun t ht => by
  cases t <;> simp [LvA] at ht ⊢
 refine ⟨M.upd (M.upd (M.upd (fun _ => p) .pr q) .pw d) .p p,by simp [updA],?_⟩
 have e1 : obj Z (P.new W m) (M.upd (fun _ => p) .pr q) .pr = .lst [] := by simp [obj,P.new]
 have e2 : obj Z (P.new W m) (M.upd (M.upd (fun _ => p) .pr q) .pw d) .pw = .dK [] := by simp [obj,P.new,wrO]
 have e3 : obj Z (P.new W m) (M.upd (M.upd (M.upd (fun _ => p) .pr q) .pw d) .p p) .p = .ins Z.P (fP (.ref q) (.ref d)) := by simp [obj,updA]
 rw [e1,e2,e3] at B4
 exact B4
theorem Bk.la {W : List Int} {m : Nat} {G0 : Gp} (B : Bk (LvA W.length) (obj Z (P.new W m)) G0 A G) {x : Addr} (hx : G x = none) :
  Bk (LvV W.length 0) (obj Z (P.new W m)) G0 (M.upd A .la x) (updG G x (.lst ((List.range W.length).map fun i => .ref (A (.as i))))) := by
 have B1 := B.add (s := .la) (a := x) (by simp [LvA]) hx (fun t ht => by cases t <;> first | exact ht.elim | simp [obj,updA])
 have e1 : obj Z (P.new W m) (M.upd A .la x) .la = .lst ((List.range W.length).map fun i => .ref (A (.as i))) := by simp [obj,updA,P.new]
 rw [e1] at B1
 refine B1.lv fun t ht => ?_
 cases t <;> simp [LvA,LvV] at ht ⊢ <;> exact ht
theorem Bk.room {W : List Int} {m : Nat} {G0 : Gp} (B : Bk (LvV W.length m) (obj Z (P.new W m)) G0 A G) {x r : Addr} {o : GO} (hx : G x = none) (h0 : G0 r = some o) :
  RoomAt Z (updG (updG G x (.lst ((List.range m).map fun i => .ref (A (.vs i))))) r (.ins Z.R (fR (.int m) (.ref (A .p)) (.ref (A .la)) (.ref x)))) (M.upd (M.upd A .lv x) .r r) (P.new W m) /\
  ∀ a u,a ≠ r -> G0 a = some u -> updG (updG G x (.lst ((List.range m).map fun i => .ref (A (.vs i))))) r (.ins Z.R (fR (.int m) (.ref (A .p)) (.ref (A .la)) (.ref x))) a = some u /\ ¬ own (M.upd (M.upd A .lv x) .r r) (P.new W m) a := by
 have B1 := B.add (s := .lv) (a := x) (by simp [LvV]) hx (fun t ht => by cases t <;> first | exact ht.elim | simp [obj,updA])
 have e1 : obj Z (P.new W m) (M.upd A .lv x) .lv = .lst ((List.range m).map fun i => .ref (A (.vs i))) := by simp [obj,updA,P.new]
 rw [e1] at B1
 have B2 := B1.rebase (u := .ins Z.R (fR (.int m) (.ref (A .p)) (.ref (A .la)) (.ref x))) h0
 have lv : ∀ s,live (P.new W m) s -> s ≠ .r -> (LvV W.length m s ∨ s = .lv) := fun s hs hn => by
  cases s <;> simp [live,P.new,LvV] at hs ⊢ <;> first | exact hs | exact hn rfl
 have ne : ∀ s,(LvV W.length m s ∨ s = .lv) -> s ≠ .r := fun s hs e => by
  subst e; rcases hs with hs | hs
  ·exact hs
  ·cases hs
 have nr : ∀ s,(LvV W.length m s ∨ s = .lv) -> M.upd A .lv x s ≠ r := fun s hs e => by
  have := B2.new s hs; rw [e,zaa] at this; cases this
 have uo : ∀ s,s ≠ .r -> M.upd (M.upd A .lv x) .r r s = M.upd A .lv x s := fun s h => by rw [updA,if_neg h]
 have ur : M.upd (M.upd A .lv x) .r r .r = r := by rw [updA,if_pos rfl]
 refine ⟨⟨fun s hs => ?_,fun s t hs ht e => ?_⟩,fun a u ha e => ⟨?_,?_⟩⟩
 ·by_cases e : s = .r
  ·subst e
   rw [ur,zaa]
   simp [obj,updA,P.new]
  ·rw [uo s e,B2.at' s (lv s hs e)]
   cases s <;> first | exact absurd rfl e | simp [obj,updA]
 ·by_cases e1 : s = .r <;> by_cases e2 : t = .r
  ·rw [e1,e2]
  ·subst e1; rw [ur,uo t e2] at e; exact absurd e.symm (nr t (lv t ht e2))
  ·subst e2; rw [ur,uo s e1] at e; exact absurd e (nr s (lv s hs e1))
  ·rw [uo s e1,uo t e2] at e; exact B2.inj s t (lv s hs e1) (lv t ht e2) e
 ·exact B2.old a u (by rw [zac ha]; exact e)
 ·rintro ⟨s,hs,e'⟩
  by_cases e1 : s = .r
  ·subst e1; rw [ur] at e'; exact ha e'.symm
  ·rw [uo s e1] at e'
   have := B2.new s (lv s hs e1)
   rw [e',zac ha,e] at this; cases this
theorem RoomAt.write (R : RoomAt Z G A S) {x : M.Let} (h : x ∉ S.letters) : RoomAt Z (updG (updG G (A .pw) (wrO (S.letters ++ [x]))) (A .pr) (.lst ((S.letters ++ [x]).map zbV))) A (S.write x) := by
 have el : (S.write x).letters = S.letters ++ [x] := by simp [P.R.write,M.write,h]
 refine ⟨fun s hs => ?_,fun s t hs ht => R.inj s t hs ht⟩
 have hs' : live S s := hs
 by_cases e1 : s = .pr
 ·subst e1; rw [zaa]; simp only [obj,el]
 ·rw [zac (R.ne hs' (t := .pr) trivial e1)]
  by_cases e2 : s = .pw
  ·subst e2; rw [zaa]; simp only [obj,el]
  ·rw [zac (R.ne hs' (t := .pw) trivial e2),R.at' s hs']
   cases s <;> first | rfl | exact absurd rfl e1 | exact absurd rfl e2
theorem Fr.write {x : M.Let} {o u : GO} : Fr G A S (updG (updG G (A .pw) o) (A .pr) u) A (S.write x) := fun a w h e =>
 ⟨by rw [zac (fun z => h ⟨.pr,trivial,z.symm⟩),zac (fun z => h ⟨.pw,trivial,z.symm⟩)]; exact e,h⟩
theorem RoomAt.wrote (R : RoomAt Z G A S) (x : M.Let) {G' : Gp} (e : G' = if x ∈ S.letters then G else updG (updG G (A .pw) (wrO (S.letters ++ [x]))) (A .pr) (.lst ((S.letters ++ [x]).map zbV))) : RoomAt Z G' A (S.write x) /\ Fr G A S G' A (S.write x) := by
 subst e
 by_cases h : x ∈ S.letters
 ·have : S.write x = S := by simp [P.R.write,M.write,h]
  rw [if_pos h,this]
  exact ⟨R,Fr.refl⟩
 ·rw [if_neg h]
  exact ⟨R.write h,Fr.write⟩
theorem RoomAt.fall (R : RoomAt Z G A S) {i : Nat} (hi : i < S.wishes.length) : RoomAt Z (updG G (A (.as i)) (.ins Z.A (fA (.int i) (.int S.wishes.length) (.int (S.wishes.getD i 0)) (.int S.many) .non (.int (S.askers i).fresh) (.ref (A (.nt i))) (.ref (A (.ak i)))))) A (S.fall i) := by
 have e : obj Z (S.fall i) A (.as i) = .ins Z.A (fA (.int i) (.int S.wishes.length) (.int (S.wishes.getD i 0)) (.int S.many) .non (.int (S.askers i).fresh) (.ref (A (.nt i))) (.ref (A (.ak i)))) := by
  simp [obj,P.R.fall,P.R.setA,M.upd,oI]
 rw [<- e]
 refine R.put (s := .as i) hi (fun t => Iff.rfl) fun t ht hn => ?_
 cases t with
 | as j =>
  have hj : j ≠ i := fun z => hn (by rw [z])
  simp [obj,P.R.fall,P.R.setA,M.upd,hj]
 | nt j => by_cases hj : j = i <;> simp [obj,P.R.fall,P.R.setA,M.upd,hj]
 | ak j => by_cases hj : j = i <;> simp [obj,P.R.fall,P.R.setA,M.upd,hj]
 | _ => rfl
theorem RoomAt.begin (R : RoomAt Z G A S) {i : Nat} (hi : i < S.wishes.length) {d : Addr} (hd : G d = none) (b f : Int) :
  RoomAt Z (updG (updG G d (.dK [])) (A (.as i)) (.ins Z.A (fA (.int i) (.int S.wishes.length) (.int (S.wishes.getD i 0)) (.int S.many) (.int b) (.int f) (.ref d) (.ref (A (.ak i)))))) (M.upd A (.nt i) d) (S.setA i { S.askers i with ballot := some b,fresh := f,noted := [] }) /\
  Fr G A S (updG (updG G d (.dK [])) (A (.as i)) (.ins Z.A (fA (.int i) (.int S.wishes.length) (.int (S.wishes.getD i 0)) (.int S.many) (.int b) (.int f) (.ref d) (.ref (A (.ak i)))))) (M.upd A (.nt i) d) (S.setA i { S.askers i with ballot := some b,fresh := f,noted := [] }) := by
 have nd : ∀ s,live S s -> A s ≠ d := fun s hs e => by have := R.at' s hs; rw [e,hd] at this; cases this
 have ua : ∀ t,t ≠ .nt i -> M.upd A (.nt i) d t = A t := fun t h => by rw [updA,if_neg h]
 have uo : M.upd A (.nt i) d (.nt i) = d := by rw [updA,if_pos rfl]
 constructor
 ·refine ⟨fun s hs => ?_,fun s t hs ht e => ?_⟩
  ·have hs' : live S s := hs
   by_cases e1 : s = .nt i
   ·subst e1
    rw [uo,zac (Ne.symm (nd (.as i) hi)),zaa]
    simp [obj,P.R.setA,M.upd,notO]
   ·rw [ua s e1]
    by_cases e2 : s = .as i
    ·subst e2
     rw [zaa]
     simp [obj,P.R.setA,M.upd,oI]
    ·rw [zac (R.ne hs' (t := .as i) hi e2),zac (nd s hs'),R.at' s hs']
     cases s with
     | as j =>
      have hj : j ≠ i := fun z => e2 (by rw [z])
      simp [obj,P.R.setA,M.upd,hj]
     | nt j =>
      have hj : j ≠ i := fun z => e1 (by rw [z])
      simp [obj,P.R.setA,M.upd,hj]
     | ak j => by_cases hj : j = i <;> simp [obj,P.R.setA,M.upd,hj]
     | _ => simp [obj,P.R.setA,M.upd]
  ·have hs' : live S s := hs
   have ht' : live S t := ht
   by_cases e1 : s = .nt i <;> by_cases e2 : t = .nt i
   ·rw [e1,e2]
   ·subst e1; rw [uo,ua t e2] at e; exact absurd e.symm (nd t ht')
   ·subst e2; rw [uo,ua s e1] at e; exact absurd e (nd s hs')
   ·rw [ua s e1,ua t e2] at e; exact R.inj s t hs' ht' e
 ·intro a o h e
  refine ⟨?_,?_⟩
  ·rw [zac (fun z => h ⟨.as i,hi,z.symm⟩),zac (neG e hd)]; exact e
  ·rintro ⟨s,hs,e'⟩
   by_cases e1 : s = .nt i
   ·subst e1; rw [uo] at e'; subst e'; rw [hd] at e; cases e
   ·rw [ua s e1] at e'; exact h ⟨s,hs,e'⟩
end
end Rm
namespace Rm
open PySem L2 L3
theorem allD_refl {f : T -> Option PyData} (hf : ∀ t d,f t = some d -> PyData.eqv d d = true) : ∀ {ts : List T} {ds : List PyData},allD f ts = some ds -> PyData.eqvAll ds ds = true
 | [],ds,h => by cases h; rfl
 | t :: r,ds,h => by
  simp only [allD] at h
  split at h
  ·rename_i d ds' e1 e2
   cases h
   have h1 := hf t d e1
   have h2 := allD_refl hf e2
   show (PyData.eqv d d && PyData.eqvAll ds' ds') = true
   rw [h1,h2]; rfl
  ·cases h
theorem toD_refl {G : Gp} : ∀ (n : Nat) (t : T) (d : PyData),toD G n t = some d -> PyData.eqv d d = true := by
 intro n
 induction n with
 | zero =>
  intro t d h
  cases t <;> simp only [toD] at h <;> first | (cases h; done) | (cases h; simp [PyData.eqv]; done) | skip
  split at h
  ·cases h; simp [PyData.eqv]
  ·cases h
 | succ n ih =>
  intro t d h
  cases t with
  | tup ts =>
   simp only [toD,Option.map_eq_some_iff] at h
   obtain ⟨ds,e,rfl⟩ := h
   exact allD_refl (f := toD G n) (fun t d => ih t d) e
  | fro ts =>
   simp only [toD,Option.map_eq_some_iff] at h
   obtain ⟨ds,e,rfl⟩ := h
   exact allD_refl (f := toD G n) (fun t d => ih t d) e
  | ref p =>
   simp only [toD] at h
   split at h
   ·simp only [Option.map_eq_some_iff] at h
    obtain ⟨ds,e,rfl⟩ := h
    exact allD_refl (f := toD G n) (fun t d => ih t d) e
   ·cases h
  | str x =>
   simp only [toD] at h
   split at h
   ·cases h; simp [PyData.eqv]
   ·cases h
  | _ => simp only [toD] at h; cases h <;> simp [PyData.eqv]
def oD : Option Int -> PyData
 | none => .none
 | some i => .int i
theorem toD_oI (G : Gp) (n : Nat) (o : Option Int) : toD G n (oI o) = some (oD o) := by cases o <;> simp [oI,oD,toD]
theorem allD_map {f : T -> Option PyData} {α : Type} {g : α -> T} {k : α -> PyData} (h : ∀ x,f (g x) = some (k x)) : ∀ (l : List α),allD f (l.map g) = some (l.map k)
 | [] => rfl
 | x :: r => by simp only [List.map_cons,allD,h,allD_map h r]
theorem toD_lst {G : Gp} {a : Addr} {α : Type} {g : α -> T} {k : α -> PyData} {l : List α} (n : Nat) (h : G a = some (.lst (l.map g))) (hk : ∀ x,toD G n (g x) = some (k x)) : toD G (n + 1) (.ref a) = some (.list (l.map k)) := by
 simp only [toD,h]
 rw [allD_map (g := g) (k := k) hk l]
 rfl
theorem ne_same {G : Gp} {x y : T} {d : PyData} {Q : VK3} (h1 : toD G 20 x = some d) (h2 : toD G 20 y = some d) (q : Q (.bl false) G) : wD (fun a b => !PyData.eqv a b) x y G Q := by
 simp only [wD,h1,h2]
 rw [toD_refl 20 x d h1]
 exact q
end Rm
set_option Elab.async false
set_option linter.all false
set_option maxRecDepth 100000
set_option maxHeartbeats 4000000
namespace Rm
open PySem L2 L3
def hearV (x : M.Let) (v : Nat) (V : M.Voter) : Option (M.Let × M.Voter) := match x with
 | .prepare b => if M.lt? V.promised b then some (.promise b v V.voted,⟨some b,V.voted⟩) else none
 | .ask b w => if M.le? V.promised b then some (.vote b v w,⟨some b,some (b,w)⟩) else none
 | _ => none
def forV : M.Let -> Prop
 | .prepare _ => True
 | .ask _ _ => True
 | _ => False
theorem hear_forV {S : P.R} {x : M.Let} {v : Nat} (h : forV x) : S.hear x v = match hearV x v (S.voters v) with
  | some (y,V') => (S.setV v V').write y
  | none => S := by
 cases x with
 | prepare b => simp only [P.R.hear,hearV]; split <;> simp_all
 | ask b w => simp only [P.R.hear,hearV]; split <;> simp_all
 | promise => exact h.elim
 | vote => exact h.elim
structure Fit (S : P.R) : Prop where
 n0 : 0 < S.wishes.length
 ln : S.letters.length <= 1000000
 ak : ∀ i,(S.askers i).asked.length <= 1000000
 nt : ∀ i b,(S.askers i).ballot = some b -> (S.askers i).noted.length < 60
section
variable {Z : Cz} {G G' : Gp} {A A' : Adr} {S S' : P.R}
theorem RoomAt.setV (R : RoomAt Z G A S) {v : Nat} (hv : v < S.many) (V' : M.Voter) : RoomAt Z (updG G (A (.vs v)) (.ins Z.V (fV (.int v) (oI V'.promised) (oP V'.voted)))) A (S.setV v V') /\
  Fr G A S (updG G (A (.vs v)) (.ins Z.V (fV (.int v) (oI V'.promised) (oP V'.voted)))) A (S.setV v V') := by
 have e : obj Z (S.setV v V') A (.vs v) = .ins Z.V (fV (.int v) (oI V'.promised) (oP V'.voted)) := by simp [obj,P.R.setV,M.upd]
 rw [<- e]
 refine ⟨R.put (s := .vs v) hv (fun t => Iff.rfl) fun t ht hn => ?_,Fr.put (s := .vs v) hv fun t => Iff.rfl⟩
 cases t with
 | vs j =>
  have hj : j ≠ v := fun z => hn (by rw [z])
  simp [obj,P.R.setV,M.upd,hj]
 | _ => rfl
theorem RoomAt.noted (R : RoomAt Z G A S) {i : Nat} (hi : i < S.wishes.length) (l : List (Nat × Option (Int × Int))) : RoomAt Z (updG G (A (.nt i)) (notO l)) A (S.setA i { S.askers i with noted := l }) /\
  Fr G A S (updG G (A (.nt i)) (notO l)) A (S.setA i { S.askers i with noted := l }) := by
 have e : obj Z (S.setA i { S.askers i with noted := l }) A (.nt i) = notO l := by simp [obj,P.R.setA,M.upd]
 rw [<- e]
 refine ⟨R.put (s := .nt i) hi (fun t => Iff.rfl) fun t ht hn => ?_,Fr.put (s := .nt i) hi fun t => Iff.rfl⟩
 cases t with
 | nt j =>
  have hj : j ≠ i := fun z => hn (by rw [z])
  simp [obj,P.R.setA,M.upd,hj]
 | as j => by_cases hj : j = i <;> simp [obj,P.R.setA,M.upd,hj]
 | ak j => by_cases hj : j = i <;> simp [obj,P.R.setA,M.upd,hj]
 | _ => rfl
theorem RoomAt.asked (R : RoomAt Z G A S) {i : Nat} (hi : i < S.wishes.length) (l : List (Int × List Nat)) : RoomAt Z (updG G (A (.ak i)) (akO l)) A (S.setA i { S.askers i with asked := l }) /\
  Fr G A S (updG G (A (.ak i)) (akO l)) A (S.setA i { S.askers i with asked := l }) := by
 have e : obj Z (S.setA i { S.askers i with asked := l }) A (.ak i) = akO l := by simp [obj,P.R.setA,M.upd]
 rw [<- e]
 refine ⟨R.put (s := .ak i) hi (fun t => Iff.rfl) fun t ht hn => ?_,Fr.put (s := .ak i) hi fun t => Iff.rfl⟩
 cases t with
 | ak j =>
  have hj : j ≠ i := fun z => hn (by rw [z])
  simp [obj,P.R.setA,M.upd,hj]
 | as j => by_cases hj : j = i <;> simp [obj,P.R.setA,M.upd,hj]
 | nt j => by_cases hj : j = i <;> simp [obj,P.R.setA,M.upd,hj]
 | _ => rfl
end
theorem setA_setA {S : P.R} {i : Nat} {a b : P.As} : (S.setA i a).setA i b = S.setA i b := by
 simp only [P.R.setA]
 congr 1
 funext j; unfold M.upd; split <;> rfl
theorem setA_at {S : P.R} {i : Nat} {a : P.As} : (S.setA i a).askers i = a := by simp [P.R.setA,M.upd]
theorem map_put {κ κ' α : Type} [DecidableEq κ] [DecidableEq κ'] {f : κ -> κ'} (inj : ∀ a b,f a = f b -> a = b) {g : α -> T} (l : List (κ × α)) (k : κ) (x : α) :
  putKT (l.map fun p => (f p.1,g p.2)) (f k) (g x) = (P.putL l k x).map fun p => (f p.1,g p.2) := by
 unfold putKT P.putL
 have e1 : ((l.map fun p => (f p.1,g p.2)).any fun kv => decide (kv.1 = f k)) = l.any fun kv => decide (kv.1 = k) := by
  rw [List.any_map]
  congr 1
  funext p
  exact decide_eq_decide.mpr ⟨fun h => inj _ _ h,fun h => congrArg f h⟩
 rw [e1]
 split
 ·rw [List.map_map,List.map_map]
  refine List.map_congr_left fun p _ => ?_
  simp only [Function.comp]
  by_cases c : p.1 = k
  ·rw [if_pos c,if_pos (by rw [c])]
  ·rw [if_neg c,if_neg (fun h => c (inj _ _ h))]
 ·simp
theorem map_get {κ κ' α : Type} [DecidableEq κ] [DecidableEq κ'] {f : κ -> κ'} (inj : ∀ a b,f a = f b -> a = b) {g : α -> T} (l : List (κ × α)) (k : κ) :
  valKT (l.map fun p => (f p.1,g p.2)) (f k) = (P.getL l k).map g := by
 unfold valKT P.getL
 rw [List.find?_map]
 have e1 : ((fun kv : κ' × T => decide (kv.1 = f k)) ∘ fun p : κ × α => (f p.1,g p.2)) = fun kv => decide (kv.1 = k) := by
  funext p
  exact decide_eq_decide.mpr ⟨fun h => inj _ _ h,fun h => congrArg f h⟩
 rw [e1]
 cases l.find? fun kv => decide (kv.1 = k) <;> rfl
theorem inlN (a b : Nat) (h : (Sum.inl (a : Int) : Key) = Sum.inl (b : Int)) : a = b := by injection h with h; omega
theorem inlI (a b : Int) (h : (Sum.inl a : Key) = Sum.inl b) : a = b := by injection h
abbrev vsT (vs : List Nat) : T := T.tup (vs.map fun (v : Nat) => T.int v)
theorem not_put (l : List (Nat × Option (Int × Int))) (v : Nat) (x : Option (Int × Int)) : GO.dK (putKT (l.map fun p => (Sum.inl (p.1 : Int),oP p.2)) (Sum.inl (v : Int)) (oP x)) = notO (P.putL l v x) := by
 unfold notO; rw [map_put (f := fun (n : Nat) => (Sum.inl (n : Int) : Key)) inlN (g := oP)]
theorem ak_put (l : List (Int × List Nat)) (b : Int) (x : List Nat) : GO.dK (putKT (l.map fun p => (Sum.inl p.1,T.tup (p.2.map fun (v : Nat) => T.int v))) (Sum.inl b) (vsT x)) = akO (P.putL l b x) := by
 unfold akO; rw [map_put (f := fun (n : Int) => (Sum.inl n : Key)) inlI (g := vsT)]
section
variable {G : Gp} {q : Addr}
theorem ak_get {l : List (Int × List Nat)} (h : G q = some (akO l)) (b : Int) : dGet (.ref q) (.int b) G = some ((P.getL l b).map vsT) := by
 simp only [dGet,h,akO,dGetK,keyOf]
 rw [map_get (f := fun (n : Int) => (Sum.inl n : Key)) inlI (g := vsT)]
theorem ak_in {l : List (Int × List Nat)} (h : G q = some (akO l)) (x : T) : inSeq x (.ref q) G = none := by
 have : zbm (.ref q) G = none := by simp [zbm,h,akO]
 simp [inSeq,this]
theorem not_set {l : List (Nat × Option (Int × Int))} {v : Nat} {x : Option (Int × Int)} {Q : Gp -> Prop} (h : G q = some (notO l)) (hl : l.length <= 1000000) (k : Q (updG G q (notO (P.putL l v x)))) : set3 (.ref q) (.int v) (oP x) G Q := by
 simp only [set3,h,notO,keyOf]
 refine ⟨by simpa using hl,?_⟩
 have e := not_put l v x
 unfold notO at e k
 rw [e]; exact k
theorem ak_set {l : List (Int × List Nat)} {b : Int} {x : List Nat} {Q : Gp -> Prop} (h : G q = some (akO l)) (hl : l.length <= 1000000) (k : Q (updG G q (akO (P.putL l b x)))) : set3 (.ref q) (.int b) (vsT x) G Q := by
 simp only [set3,h,akO,keyOf]
 refine ⟨by simpa using hl,?_⟩
 have e := ak_put l b x
 unfold akO at e k
 rw [e]; exact k
end
theorem eqvS (x y : Str) : PyData.eqv (.str x) (.str y) = decide (x = y) := by rw [show PyData.eqv (.str x) (.str y) = (x == y) from rfl]; exact Bool.beq_eq_decide_eq x y
theorem eqvN (i : Int) : PyData.eqv (.int i) .none = false := rfl
theorem eqv_oD (b : Int) (o : Option Int) : PyData.eqv (.int b) (oD o) = decide (o = some b) := by
 cases o with
 | none => simp [oD,eqvN]
 | some i =>
  rw [oD,eqvI]
  exact decide_eq_decide.mpr ⟨fun h => by rw [h],fun h => by injection h with h; exact h.symm⟩
theorem sortI_N (l : List Nat) : sortI (l.map fun (v : Nat) => (v : Int)) = (P.sortN l).map fun (v : Nat) => (v : Int) := by
 refine (sortI_eq ?_ ?_).symm
 ·exact (List.mergeSort_perm _ _).map _
 ·rw [List.pairwise_map]
  have := List.pairwise_mergeSort (le := fun a b : Nat => decide (a <= b)) (fun a b c => by simp; omega) (fun a b => by simp; omega) l
  exact this.imp fun h => by have := of_decide_eq_true h; omega
theorem not_keys (l : List (Nat × Option (Int × Int))) : intsOf ((l.map fun p => ((Sum.inl (p.1 : Int) : Key),oP p.2)).map fun kv => kT kv.1) = some ((l.map (·.1)).map fun (v : Nat) => (v : Int)) := by
 have : ((l.map fun p => ((Sum.inl (p.1 : Int) : Key),oP p.2)).map fun kv => kT kv.1) = ((l.map (·.1)).map fun (v : Nat) => (v : Int)).map T.int := by
  rw [List.map_map,List.map_map,List.map_map]; rfl
 rw [this,intsOf_map]
theorem lasts_T (l : List (Nat × Option (Int × Int))) : ((l.map fun p => oP p.2).filter fun t => !isN t) = (P.lasts l).map pT := by
 induction l with
 | nil => rfl
 | cons p r ih =>
  obtain ⟨v,o⟩ := p
  cases o with
  | none => simpa [oP,isN,P.lasts] using ih
  | some q => simpa [oP,isN,P.lasts,pT] using ih
theorem wish_nil {w : Int} {l : List (Nat × Option (Int × Int))} (h : P.lasts l = []) : P.wishToAsk w l = w := by simp [P.wishToAsk,h]
theorem wish_cons {w : Int} {l : List (Nat × Option (Int × Int))} {x : Int × Int} {r : List (Int × Int)} (h : P.lasts l = x :: r) : P.wishToAsk w l = (bestL P.ltP x r).2 := by
 simp [P.wishToAsk,h,P.maxP,bestL]
theorem putL_len {κ α : Type} [DecidableEq κ] (l : List (κ × α)) (k : κ) (x : α) : (P.putL l k x).length <= l.length + 1 := by
 unfold P.putL; split <;> simp
end Rm
set_option Elab.async false
set_option linter.all false
set_option maxHeartbeats 4000000
namespace P
open M (Let)
def code : Let -> Nat × Int × Nat
 | .prepare b => (0,b,0)
 | .promise b v _ => (1,b,v)
 | .ask b _ => (2,b,0)
 | .vote b v _ => (3,b,v)
def prepB : Let -> Option Int
 | .prepare b => some b
 | _ => none
def bals (L : List Let) : List Int := L.filterMap prepB
theorem mem_bals {L : List Let} {b : Int} : b ∈ bals L ↔ .prepare b ∈ L := by
 unfold bals
 rw [List.mem_filterMap]
 constructor
 ·rintro ⟨x,h,e⟩
  cases x <;> simp [prepB] at e
  subst e; exact h
 ·intro h; exact ⟨_,h,rfl⟩
theorem code_nodup {D : M.St} (I : M.Inv D) : (D.letters.map code).Nodup := by
 unfold List.Nodup
 rw [List.pairwise_map]
 refine List.Pairwise.imp_of_mem ?_ I.nodup
 intro x y hx hy ne e
 apply ne
 cases x <;> cases y <;> simp [code] at e
 ·rw [e]
 ·obtain ⟨rfl,rfl⟩ := e
  rw [I.promU _ _ _ _ hx hy]
 ·subst e
  rw [I.askU _ _ _ hx hy]
 ·obtain ⟨rfl,rfl⟩ := e
  rw [I.askU _ _ _ (I.vot _ _ _ hx).2.1 (I.vot _ _ _ hy).2.1]
def codes (m : Nat) (bs : List Int) : List (Nat × Int × Nat) := bs.flatMap fun b => (0,b,0) :: (2,b,0) :: ((List.range m).map (fun v => (1,b,v)) ++ (List.range m).map fun v => (3,b,v))
theorem codes_len (m : Nat) (bs : List Int) : (codes m bs).length = bs.length * (2 + 2 * m) := by
 induction bs with
 | nil => simp [codes]
 | cons b r ih =>
  unfold codes at ih ⊢
  rw [List.flatMap_cons,List.length_append,ih]
  simp [Nat.add_mul]
  omega
theorem code_mem {D : M.St} (I : M.Inv D) {x : Let} (h : x ∈ D.letters) : code x ∈ codes D.many (bals D.letters) := by
 have key : ∀ b,.prepare b ∈ D.letters -> ∀ c,c ∈ ((0,b,0) :: (2,b,0) :: ((List.range D.many).map (fun v => (1,b,v)) ++ (List.range D.many).map fun v => (3,b,v)) : List (Nat × Int × Nat)) -> c ∈ codes D.many (bals D.letters) :=
  fun b hb c hc => List.mem_flatMap.mpr ⟨b,mem_bals.mpr hb,hc⟩
 cases x with
 | prepare b => exact key b h _ (by simp [code])
 | promise b v l => have := I.prom b v l h; exact key b this.2.1 _ (by simp [code,this.1])
 | ask b w => exact key b (I.askP b w h).1 _ (by simp [code])
 | vote b v w => have := I.vot b v w h; exact key b (I.askP b w this.2.1).1 _ (by simp [code,this.1])
theorem letters_le {D : M.St} (I : M.Inv D) : D.letters.length <= (bals D.letters).length * (2 + 2 * D.many) := by
 rw [<- codes_len]
 have := M.length_of_nodup (code_nodup I) (r := codes D.many (bals D.letters)) fun c hc => by
  obtain ⟨x,hx,rfl⟩ := List.mem_map.mp hc
  exact code_mem I hx
 simpa using this
def Nd (S : R) : Prop := ∀ i,((S.askers i).asked.map (·.1)).Nodup
structure Ok (n : Nat) (S : R) : Prop where
 good : Good S
 nd : Nd S
 m : S.many <= 7
 pr : (bals S.letters).length <= n
theorem Ok.new {wishes : List Int} {many : Nat} (h : 0 < wishes.length) (hm : many <= 7) : Ok 0 (new wishes many) := ⟨Good.new h,fun i => by simp [P.new],hm,by simp [P.new,bals]⟩
theorem Ok.mono {n m : Nat} {S : R} (h : Ok n S) (hm : n <= m) : Ok m S := ⟨h.good,h.nd,h.m,Nat.le_trans h.pr hm⟩
theorem Ok.ln {n : Nat} {S : R} (h : Ok n S) : S.letters.length <= n * 16 := by
 obtain ⟨D,s,I⟩ := h.good
 have h1 := letters_le I
 rw [<- s.l,<- s.m] at h1
 have h2 := h.m
 have h3 := h.pr
 calc S.letters.length <= (bals S.letters).length * (2 + 2 * S.many) := h1
  _ <= n * 16 := Nat.mul_le_mul h3 (by omega)
theorem Ok.ak {n : Nat} {S : R} (h : Ok n S) (i : Nat) : (S.askers i).asked.length <= n * 16 := by
 refine Nat.le_trans ?_ h.ln
 obtain ⟨D,s,I⟩ := h.good
 have nd := h.nd i
 have h1 : (((S.askers i).asked.map (·.1)).map fun b => ((2,b,0) : Nat × Int × Nat)).Nodup := by
  unfold List.Nodup at nd ⊢
  rw [List.pairwise_map]
  exact nd.imp fun h e => h (by injection e with _ e; injection e)
 have := M.length_of_nodup h1 (r := D.letters.map code) fun c hc => by
  obtain ⟨b,hb,rfl⟩ := List.mem_map.mp hc
  have hg : getL (S.askers i).asked b ≠ none := fun z => getL_none.mp z hb
  rw [s.ak] at hg
  have hb2 : ∃ vs,D.backers b = some vs := by
   by_cases c : M.own S.wishes.length b = i
   ·rw [if_pos c] at hg
    exact Option.ne_none_iff_exists'.mp hg
   ·rw [if_neg c] at hg; exact absurd rfl hg
  obtain ⟨vs,hvs⟩ := hb2
  obtain ⟨⟨w,hw⟩,_⟩ := I.back b vs hvs
  exact List.mem_map.mpr ⟨_,hw,rfl⟩
 rw [s.l]
 simpa using this
theorem Ok.nt {n : Nat} {S : R} (h : Ok n S) {i : Nat} {b : Int} (hb : (S.askers i).ballot = some b) : (S.askers i).noted.length <= 7 := by
 obtain ⟨D,s,I⟩ := h.good
 rw [s.bl] at hb
 rw [s.nt]
 have h1 := M.length_of_nodup (I.notedU i) (r := List.range D.many) fun v hv => by
  obtain ⟨⟨v',x⟩,hx,e⟩ := List.mem_map.mp hv
  simp only at e; subst e
  have := (I.prom b _ _ (I.noted i b _ _ hb hx)).1
  simpa using this
 have h2 := h.m
 rw [s.m] at h2
 simp at h1
 omega
theorem bals_write {L : List Let} {x : Let} : (bals (M.write L x)).length <= (bals L).length + (if (prepB x).isSome then 1 else 0) := by
 unfold M.write
 split
 ·omega
 ·unfold bals
  rw [List.filterMap_append,List.length_append]
  cases x <;> simp [prepB,List.filterMap]
structure Grow (S S' : R) : Prop where
 w : S'.wishes = S.wishes
 m : S'.many = S.many
 l : S.letters <+: S'.letters
theorem Grow.refl (S : R) : Grow S S := ⟨rfl,rfl,List.prefix_refl _⟩
theorem Grow.trans {S S' S'' : R} (a : Grow S S') (b : Grow S' S'') : Grow S S'' := ⟨b.w.trans a.w,b.m.trans a.m,a.l.trans b.l⟩
theorem pre_write (L : List Let) (x : Let) : L <+: M.write L x := by
 unfold M.write; split
 ·exact List.prefix_refl _
 ·exact List.prefix_append _ _
theorem Grow.begin (S : R) (i : Nat) (l : Int) : Grow S (S.begin i l) := ⟨rfl,rfl,pre_write _ _⟩
theorem Grow.fall (S : R) (i : Nat) : Grow S (S.fall i) := ⟨rfl,rfl,List.prefix_refl _⟩
theorem Grow.note (S : R) (b : Int) (v : Nat) (l : Option (Int × Int)) : Grow S (S.note b v l) := by
 unfold R.note
 simp only
 split
 ·split
  ·exact ⟨rfl,rfl,pre_write _ _⟩
  ·exact ⟨rfl,rfl,List.prefix_refl _⟩
 ·exact Grow.refl S
theorem Grow.hear (S : R) (x : Let) (v : Nat) : Grow S (S.hear x v) := by
 cases x with
 | promise b u l => exact Grow.note S b u l
 | vote b u w => exact Grow.refl S
 | prepare b =>
  simp only [R.hear]; split
  ·exact ⟨rfl,rfl,pre_write _ _⟩
  ·exact Grow.refl S
 | ask b w =>
  simp only [R.hear]; split
  ·exact ⟨rfl,rfl,pre_write _ _⟩
  ·exact Grow.refl S
theorem Grow.bring (S : R) (k v : Nat) : Grow S (S.bring k v) := by
 unfold R.bring; split
 ·exact Grow.hear S _ v
 ·exact Grow.refl S
theorem Nd.note {S : R} (h : Nd S) (b : Int) (v : Nat) (l : Option (Int × Int)) : Nd (S.note b v l) := by
 unfold R.note
 simp only
 split
 ·rename_i c
  have hb := getL_none.mp c.2
  split
  ·intro i
   simp only [R.setA,R.write,M.upd]
   split
   ·rename_i e; subst e
    simp only
    rw [putL_new hb,List.map_append]
    have nd := h (M.own S.wishes.length b)
    exact List.nodup_append.mpr ⟨nd,by simp,fun x hx y hy => by
     have : y = b := by simpa using hy
     subst this
     intro e; subst e; exact hb hx⟩
   ·exact h i
  ·intro i
   simp only [R.setA,M.upd]
   split
   ·rename_i e; subst e; exact h _
   ·exact h i
 ·exact h
theorem Nd.hear {S : R} (h : Nd S) (x : Let) (v : Nat) : Nd (S.hear x v) := by
 cases x with
 | promise b u l => exact h.note b u l
 | vote b u w => exact h
 | prepare b => simp only [R.hear]; split <;> exact h
 | ask b w => simp only [R.hear]; split <;> exact h
theorem bals_hear (S : R) (x : Let) (v : Nat) : (bals (S.hear x v).letters).length <= (bals S.letters).length := by
 cases x with
 | promise b u l =>
  simp only [R.hear,R.note]
  split
  ·split
   ·exact bals_write
   ·exact Nat.le_refl _
  ·exact Nat.le_refl _
 | vote b u w => exact Nat.le_refl _
 | prepare b =>
  simp only [R.hear]; split
  ·exact bals_write
  ·exact Nat.le_refl _
 | ask b w =>
  simp only [R.hear]; split
  ·exact bals_write
  ·exact Nat.le_refl _
theorem Ok.bring {n : Nat} {S : R} (h : Ok n S) (k : Nat) {v : Nat} (hv : v < S.many) : Ok n (S.bring k v) := by
 refine ⟨h.good.bring k hv,?_,?_,?_⟩
 ·unfold R.bring; split
  ·exact h.nd.hear _ v
  ·exact h.nd
 ·rw [(Grow.bring S k v).m]; exact h.m
 ·unfold R.bring; split
  ·exact Nat.le_trans (bals_hear S _ v) h.pr
  ·exact h.pr
theorem Ok.begin {n : Nat} {S : R} (h : Ok n S) {i : Nat} {l : Int} (hi : i < S.wishes.length) (hl : 0 <= l) : Ok (n + 1) (S.begin i l) := by
 refine ⟨h.good.begin hi hl,fun j => ?_,h.m,?_⟩
 ·simp only [R.begin,R.setA,R.write,M.upd]
  split
  ·rename_i e; subst e; exact h.nd _
  ·exact h.nd j
 ·exact Nat.le_trans bals_write (Nat.succ_le_succ h.pr)
theorem Ok.fall {n : Nat} {S : R} (h : Ok n S) (i : Nat) : Ok n (S.fall i) := by
 refine ⟨h.good.fall i,fun j => ?_,h.m,h.pr⟩
 simp only [R.fall,R.setA,M.upd]
 split
 ·rename_i e; subst e; exact h.nd _
 ·exact h.nd j
def za0 (b w : Int) : Let -> Option Nat
 | .vote b' v w' => if b' = b /\ w' = w then some v else none
 | _ => none
def voted (L : List Let) (b w : Int) : List Nat := L.filterMap (za0 b w)
theorem mem_voted {L : List Let} {b w : Int} {v : Nat} : v ∈ voted L b w ↔ .vote b v w ∈ L := by
 unfold voted
 rw [List.mem_filterMap]
 constructor
 ·rintro ⟨x,h,e⟩
  cases x <;> simp [za0] at e
  obtain ⟨⟨rfl,rfl⟩,rfl⟩ := e; exact h
 ·intro h; exact ⟨_,h,by simp [za0]⟩
theorem zbL {α β : Type} {f : α -> Option β} (inj : ∀ a b c,f a = some c -> f b = some c -> a = b) : ∀ {l : List α},l.Nodup -> (l.filterMap f).Nodup
 | [],_ => by simp
 | a :: r,h => by
  rw [List.nodup_cons] at h
  rw [List.filterMap_cons]
  split
  ·exact zbL inj h.2
  ·rename_i c e
   rw [List.nodup_cons]
   refine ⟨fun hm => ?_,zbL inj h.2⟩
   obtain ⟨b,hb,e2⟩ := List.mem_filterMap.mp hm
   exact h.1 (inj a b c e e2 ▸ hb)
theorem voted_nodup {L : List Let} (h : L.Nodup) (b w : Int) : (voted L b w).Nodup := by
 refine zbL (fun x y c hx hy => ?_) h
 cases x <;> simp [za0] at hx
 cases y <;> simp [za0] at hy
 obtain ⟨⟨rfl,rfl⟩,rfl⟩ := hx
 obtain ⟨⟨rfl,rfl⟩,rfl⟩ := hy
 rfl
theorem voted_len {D : M.St} (I : M.Inv D) (b w : Int) : (voted D.letters b w).length = (M.Vs D b w).length := by
 have h1 := M.length_of_nodup (voted_nodup I.nodup b w) (r := M.Vs D b w) fun v hv => by
  have := mem_voted.mp hv
  exact M.mem_Vs.mpr ⟨(I.vot b v w this).1,this⟩
 have h2 := M.length_of_nodup (M.sorted_nodup (M.Vs_sorted D b w)) (r := voted D.letters b w) fun v hv => mem_voted.mpr (M.mem_Vs.mp hv).2
 omega
def Chosen (S : R) (b w : Int) : Prop := S.many < 2 * (voted S.letters b w).length
theorem chosen_iff {S : R} {D : M.St} (s : Sim S D) (I : M.Inv D) {b w : Int} : Chosen S b w ↔ M.Chosen D b w := by
 unfold Chosen M.Chosen
 rw [s.l,voted_len I,s.m]
def tally (l : List ((Int × Int) × Int)) : Let -> List ((Int × Int) × Int)
 | .vote b _ w => putL l (b,w) ((getL l (b,w)).getD 0 + 1)
 | _ => l
def counts (L : List Let) : List ((Int × Int) × Int) := L.foldl tally []
theorem map_if_keys {κ α : Type} [DecidableEq κ] (l : List (κ × α)) (k : κ) (x : α) : (l.map (fun kv => if kv.1 = k then (kv.1,x) else kv)).map (·.1) = l.map (·.1) := by
 rw [List.map_map]
 refine List.map_congr_left fun p _ => ?_
 simp only [Function.comp]; split <;> rfl
theorem putL_nodup {κ α : Type} [DecidableEq κ] {l : List (κ × α)} {k : κ} {x : α} (h : (l.map (·.1)).Nodup) : ((putL l k x).map (·.1)).Nodup := by
 unfold putL
 split
 ·rw [map_if_keys]; exact h
 ·rename_i c
  rw [List.map_append]
  refine List.nodup_append.mpr ⟨h,by simp,fun a ha b hb e => c ?_⟩
  have : b = k := by simpa using hb
  subst this; subst e
  obtain ⟨p,hp,e⟩ := List.mem_map.mp ha
  simp only [List.any_eq_true,decide_eq_true_eq]
  exact ⟨p,hp,e⟩
theorem getL_put {κ α : Type} [DecidableEq κ] {l : List (κ × α)} {k j : κ} {x : α} : getL (putL l k x) j = if j = k then some x else getL l j := by
 by_cases c : (l.any fun kv => decide (kv.1 = k)) = true
 ·unfold putL
  rw [if_pos c]
  revert c
  induction l with
  | nil => intro hc; simp at hc
  | cons p r ih =>
   intro hc
   unfold getL at ih ⊢
   rw [List.map_cons,List.find?_cons,List.find?_cons]
   by_cases e : p.1 = k
   ·rw [if_pos e]
    simp only
    by_cases e2 : j = k
    ·subst e2; simp [e]
    ·have e3 : ¬ p.1 = j := fun z => e2 (z.symm.trans e)
     simp only [e3,decide_false,e2,if_false]
     by_cases hr : (r.any fun kv => decide (kv.1 = k)) = true
     ·have := ih hr
      rw [if_neg e2] at this
      exact this
     ·have : r.map (fun kv => if kv.1 = k then (kv.1,x) else kv) = r := map_rep (fun z => hr (by
       obtain ⟨p,hp,e⟩ := List.mem_map.mp z
       simp only [List.any_eq_true,decide_eq_true_eq]
       exact ⟨p,hp,e⟩))
      rw [this]
   ·rw [if_neg e]
    have hr : (r.any fun kv => decide (kv.1 = k)) = true := by simpa [e] using hc
    by_cases e2 : p.1 = j
    ·have e3 : ¬ j = k := fun z => e (e2.trans z)
     simp [e2,e3]
    ·simp only [e2,decide_false]
     exact ih hr
 ·have hk : k ∉ l.map (·.1) := fun z => c (by
   obtain ⟨p,hp,e⟩ := List.mem_map.mp z
   simp only [List.any_eq_true,decide_eq_true_eq]
   exact ⟨p,hp,e⟩)
  rw [putL_new hk,getL_app hk]
theorem zbH : ∀ (L : List Let) (l : List ((Int × Int) × Int)) (c : Int × Int -> Nat),(l.map (·.1)).Nodup -> (∀ q,getL l q = if c q = 0 then none else some (c q : Int)) ->
  ((L.foldl tally l).map (·.1)).Nodup /\ ∀ q,getL (L.foldl tally l) q = if c q + (voted L q.1 q.2).length = 0 then none else some ((c q + (voted L q.1 q.2).length : Nat) : Int)
 | [],l,c,nd,h => ⟨nd,fun q => by rw [List.foldl_nil,h q]; by_cases z : c q = 0 <;> simp [voted,z]⟩
 | x :: r,l,c,nd,h => by
  rw [List.foldl_cons]
  have nov : ∀ b w,za0 b w x = none -> voted (x :: r) b w = voted r b w := fun b w e => by simp [voted,e]
  have yes : ∀ b w v,za0 b w x = some v -> (voted (x :: r) b w).length = (voted r b w).length + 1 := fun b w v e => by simp [voted,e]
  cases x with
  | vote b v w =>
   have ih := zbH r (tally l (.vote b v w)) (fun q => if q = (b,w) then c q + 1 else c q) (putL_nodup nd) fun q => by
    simp only [tally]
    rw [getL_put]
    by_cases e : q = (b,w)
    ·subst e
     simp only [if_true]
     rw [h]
     split
     ·rename_i z; simp [z]
     ·simp
    ·rw [if_neg e,if_neg e]; exact h q
   refine ⟨ih.1,fun q => ?_⟩
   rw [ih.2 q]
   by_cases e : q = (b,w)
   ·subst e
    rw [yes b w v (by simp [za0])]
    simp only [if_true]
    have : c (b,w) + 1 + (voted r b w).length = c (b,w) + ((voted r b w).length + 1) := by omega
    rw [this]
   ·rw [nov q.1 q.2 (by
     simp only [za0]
     rw [if_neg]
     rintro ⟨h1,h2⟩
     exact e (by rw [h1,h2]))]
    rw [if_neg e]
  | prepare b =>
   have ih := zbH r l c nd h
   refine ⟨ih.1,fun q => ?_⟩
   rw [nov q.1 q.2 rfl]; exact ih.2 q
  | promise b v l' =>
   have ih := zbH r l c nd h
   refine ⟨ih.1,fun q => ?_⟩
   rw [nov q.1 q.2 rfl]; exact ih.2 q
  | ask b w =>
   have ih := zbH r l c nd h
   refine ⟨ih.1,fun q => ?_⟩
   rw [nov q.1 q.2 rfl]; exact ih.2 q
theorem counts_nodup (L : List Let) : ((counts L).map (·.1)).Nodup := (zbH L [] (fun _ => 0) (by simp) (by simp [getL])).1
theorem counts_get (L : List Let) (q : Int × Int) : getL (counts L) q = if (voted L q.1 q.2).length = 0 then none else some ((voted L q.1 q.2).length : Int) := by
 have := (zbH L [] (fun _ => 0) (by simp) (by simp [getL])).2 q
 simpa [counts] using this
theorem getL_mem {κ α : Type} [DecidableEq κ] : ∀ {l : List (κ × α)} {k : κ} {x : α},(l.map (·.1)).Nodup -> (k,x) ∈ l -> getL l k = some x
 | (j,y) :: r,k,x,nd,h => by
  simp only [List.map_cons,List.nodup_cons] at nd
  unfold getL
  rw [List.find?_cons]
  rcases List.mem_cons.mp h with e | e
  ·cases e; simp
  ·have : ¬ j = k := fun z => nd.1 (z ▸ List.mem_map_of_mem e)
   simp only [this,decide_false]
   exact getL_mem nd.2 e
def won (L : List Let) (m : Nat) : List (Int × Int) := ((counts L).filter fun p => decide ((m : Int) < 2 * p.2)).map (·.1)
theorem won_nodup (L : List Let) (m : Nat) : (won L m).Nodup := by
 unfold won
 have h := counts_nodup L
 exact h.sublist (List.filter_sublist.map _)
theorem mem_won {S : R} {q : Int × Int} : q ∈ won S.letters S.many ↔ Chosen S q.1 q.2 := by
 unfold won Chosen
 constructor
 ·intro h
  obtain ⟨p,hp,rfl⟩ := List.mem_map.mp h
  obtain ⟨h1,h2⟩ := List.mem_filter.mp hp
  have := getL_mem (counts_nodup _) (show (p.1,p.2) ∈ counts S.letters from h1)
  rw [counts_get] at this
  split at this
  ·cases this
  ·simp only [Option.some.injEq] at this
   simp only [decide_eq_true_eq] at h2
   omega
 ·intro h
  have h1 := counts_get S.letters q
  rw [if_neg (by omega)] at h1
  unfold getL at h1
  rw [Option.map_eq_some_iff] at h1
  obtain ⟨p,hp,e⟩ := h1
  have hk := List.find?_some hp
  simp only [decide_eq_true_eq] at hk
  refine List.mem_map.mpr ⟨p,List.mem_filter.mpr ⟨List.mem_of_find?_eq_some hp,?_⟩,hk⟩
  rw [e]
  simp only [decide_eq_true_eq]
  omega
theorem won_few {n : Nat} {S : R} (h : Ok n S) : (won S.letters S.many).length <= n := by
 refine Nat.le_trans ?_ h.pr
 obtain ⟨D,s,I⟩ := h.good
 have hk : ∀ q,q ∈ won S.letters S.many -> .ask q.1 q.2 ∈ D.letters := fun q hq => M.Chosen.ask I ((chosen_iff s I).mp (mem_won.mp hq))
 have h1 : ((won S.letters S.many).map (·.1)).Nodup := by
  unfold List.Nodup
  rw [List.pairwise_map]
  refine List.Pairwise.imp_of_mem ?_ (won_nodup S.letters S.many)
  intro x y hx hy ne e
  refine ne (Prod.ext e ?_)
  exact I.askU x.1 _ _ (hk x hx) (by rw [e]; exact hk y hy)
 have := M.length_of_nodup h1 (r := bals S.letters) fun b hb => by
  obtain ⟨q,hq,rfl⟩ := List.mem_map.mp hb
  rw [s.l]
  exact mem_bals.mpr (I.askP _ _ (hk q hq)).1
 simpa using this
end P
set_option Elab.async false
set_option linter.all false
set_option maxHeartbeats 4000000
namespace P
open M (Let)
def renL (f : Nat -> Nat) : Let -> Let
 | .promise b v l => .promise b (f v) l
 | .vote b v w => .vote b (f v) w
 | x => x
structure Ren (f : Nat -> Nat) (S T : R) : Prop where
 w : T.wishes = S.wishes
 m : T.many = S.many
 l : T.letters = S.letters.map (renL f)
 bl : ∀ i,(T.askers i).ballot = (S.askers i).ballot
 fr : ∀ i,(T.askers i).fresh = (S.askers i).fresh
 nt : ∀ i,(T.askers i).noted = (S.askers i).noted.map fun p => (f p.1,p.2)
 ak : ∀ i,(T.askers i).asked = (S.askers i).asked.map fun p => (p.1,sortN (p.2.map f))
 v : ∀ v,v < S.many -> T.voters (f v) = S.voters v
section
variable {f : Nat -> Nat} {S T : R}
end
end P
set_option Elab.async false
set_option linter.all false
set_option maxHeartbeats 4000000
namespace P
open M (Let)
def hearAll (S : R) (x : Let) (m : Nat) : R := (List.range m).foldl (fun S v => S.hear x v) S
def isProm (b : Int) : Let -> Bool
 | .promise b' _ _ => decide (b' = b)
 | _ => false
def isAsk (b : Int) : Let -> Bool
 | .ask b' _ => decide (b' = b)
 | _ => false
def isPrep (b : Int) : Let -> Bool
 | .prepare b' => decide (b' = b)
 | _ => false
def mxl (x : Int) (r : List Int) : Int := r.foldl (fun a c => if a < c then c else a) x
def beyond : List Let -> Int
 | [] => 0
 | x :: r => mxl (x.bal + 1) (r.map fun y => y.bal + 1)
section
variable {S : R} {b : Int}
def promAll (S : R) (b : Int) (l : Nat -> Option (Int × Int)) (j : Nat) : R := (List.range j).foldl (fun S v => S.note b v (l v)) S
end
def calmB (S : R) (i : Nat) : Int := (S.askers i).due i S.wishes.length (beyond S.letters)
def R.calm (S : R) (i : Nat) : R :=
 let S1 := S.begin i (beyond S.letters)
 let S2 := (S1.letters.filter (isPrep (calmB S i))).foldl (fun S x => hearAll S x S.many) S1
 let S3 := (S2.letters.filter (isProm (calmB S i))).foldl (fun S x => S.hear x 0) S2
 (S3.letters.filter (isAsk (calmB S i))).foldl (fun S x => hearAll S x S.many) S3
structure Calm (S : R) (i : Nat) (b w : Int) (S1 S2 S3 S4 : R) : Prop where
 e1 : S1 = S.begin i (beyond S.letters)
 e2 : S2 = hearAll S1 (.prepare b) S.many
 e3 : S3 = promAll S2 b (fun v => (S.voters v).voted) S.many
 e4 : S4 = hearAll S3 (.ask b w) S.many
 l1 : S1.letters = S.letters ++ [.prepare b]
 l2 : S2.letters = S1.letters ++ (List.range S.many).map fun v => .promise b v (S.voters v).voted
 l3 : S3.letters = S2.letters ++ [.ask b w]
 l4 : S4.letters = S3.letters ++ (List.range S.many).map fun v => .vote b v w
 m1 : S1.many = S.many
 m2 : S2.many = S.many
 m3 : S3.many = S.many
 m4 : S4.many = S.many
 w4 : S4.wishes = S.wishes
 bl : (S4.askers i).ballot = some b
 vo : ∀ v,v < S.many -> S4.voters v = ⟨some b,some (b,w)⟩
 top : ∀ x ∈ S.letters,x.bal < b
 own : w = wishToAsk (S.wishes.getD i 0) ((List.range (S.many / 2 + 1)).map fun v => (v,(S.voters v).voted))
 b0 : 0 <= b
section
variable {S S1 S2 S3 S4 : R} {i : Nat} {b w : Int}
theorem Calm.voted (C : Calm S i b w S1 S2 S3 S4) (hv : ∀ v w',.vote b v w' ∉ S.letters) : P.voted S4.letters b w = List.range S.many := by
 have h0 : S.letters.filterMap (za0 b w) = [] := by
  rw [List.filterMap_eq_nil_iff]
  intro x hx
  cases x with
  | vote b' v w' =>
   simp only [za0]
   rw [if_neg]
   rintro ⟨rfl,rfl⟩
   exact hv _ _ hx
  | _ => rfl
 unfold P.voted
 rw [C.l4,C.l3,C.l2,C.l1]
 simp only [List.filterMap_append,h0]
 have h1 : ((List.range S.many).map fun v => Let.promise b v (S.voters v).voted).filterMap (za0 b w) = [] := by
  rw [List.filterMap_eq_nil_iff]
  intro x hx
  obtain ⟨v,_,rfl⟩ := List.mem_map.mp hx
  rfl
 have h2 : ((List.range S.many).map fun v => Let.vote b v w).filterMap (za0 b w) = List.range S.many := by
  rw [List.filterMap_map]
  have : (za0 b w ∘ fun v => Let.vote b v w) = some := by funext v; simp [za0]
  rw [this]; simp
 rw [h1,h2]
 simp [List.filterMap,za0]
end
end P
set_option linter.all false
namespace P
open M (Let)
end P
set_option linter.all false
namespace P
open M (Let)
theorem bal_prep {D : M.St} (I : M.Inv D) {x : Let} (h : x ∈ D.letters) : .prepare x.bal ∈ D.letters := by
 cases x with
 | prepare b => exact h
 | promise b v l => exact (I.prom b v l h).2.1
 | ask b w => exact (I.askP b w h).1
 | vote b v w => exact (I.askP b w (I.vot b v w h).2.1).1
theorem Ok.bals {n : Nat} {S : R} (h : Ok n S) {bs : List Int} (nd : bs.Nodup) (m : ∀ b ∈ bs,b ∈ S.letters.map Let.bal) : bs.length <= n := by
 obtain ⟨D,s,I⟩ := h.good
 refine Nat.le_trans (M.length_of_nodup nd (r := P.bals S.letters) fun b hb => ?_) h.pr
 obtain ⟨x,hx,e⟩ := List.mem_map.mp (m b hb)
 rw [s.l] at hx ⊢
 exact mem_bals.mpr (e ▸ bal_prep I hx)
end P
set_option Elab.async false
set_option linter.all false
set_option maxRecDepth 100000
set_option maxHeartbeats 4000000
namespace Rm
open PySem L2 L3
theorem forL_inv {g : TG3} {tb : TS3} {S : Gp -> Prop} {D : Ends3} (J : List T -> St3 -> Gp -> Prop) (h0 : ∀ r τ G,J r τ G -> S G) (h1 : ∀ τ G,J [] τ G -> D.nx τ G)
  (h2 : ∀ (x : T) (r : List T) (τ : St3) (G : Gp) (N : St3 -> Gp -> Prop),(∀ τ' G',J r τ' G' -> N τ' G') -> J (x :: r) τ G -> g x τ G fun τ' G' => tb { D with nx := N,ct := N,bk := D.nx } τ' G') :
  ∀ (ts : List T) (τ : St3) (G : Gp),J ts τ G -> forL g tb S ts D τ G
 | [],τ,G,j => ⟨h0 _ τ G j,h1 τ G j⟩
 | x :: r,τ,G,j => ⟨h0 _ τ G j,h2 x r τ G _ (fun τ' G' j' => forL_inv J h0 h1 h2 r τ' G' j') j⟩
theorem compL_inv {g : TG3} {tc : TT3} {te : TE3} {S : Gp -> Prop} {τ : St3} {Q : List T -> Gp -> Prop} (J : List T -> List T -> Gp -> Prop) (h0 : ∀ r acc G,J r acc G -> S G) (h1 : ∀ acc G,J [] acc G -> Q acc G)
  (h2 : ∀ (x : T) (r acc : List T) (G : Gp) (N : List T -> Gp -> Prop),(∀ acc' G',J r acc' G' -> N acc' G') -> J (x :: r) acc G -> g x τ G fun τ2 G2 => tc τ2 G2 fun b G3 => if b = true then te τ2 G3 fun y G4 => N (acc ++ [y]) G4 else N acc G3) :
  ∀ (ts acc : List T) (G : Gp),J ts acc G -> compL g tc te S ts τ acc G Q
 | [],acc,G,j => ⟨h0 _ acc G j,h1 acc G j⟩
 | x :: r,acc,G,j => ⟨h0 _ acc G j,h2 x r acc G (fun a G' => compL g tc te S r τ a G' Q) (fun a G' j' => compL_inv J h0 h1 h2 r a G' j') j⟩
def pK (q : Int × Int) : LK := [.at (.int q.1),.at (.int q.2)]
theorem lkT_pK (q : Int × Int) : lkT (pK q) = pT q := rfl
theorem lkOf_pT (q : Int × Int) : lkOf (pT q) = some (pK q) := by rw [<- lkT_pK]; exact lkOf_lkT _
theorem keyOf_pT (q : Int × Int) : keyOf (pT q) = none := rfl
theorem okLK_pK (q : Int × Int) : okLK (pK q) = true := by simp [pK,okLK,A1.ok,A0.ok]
theorem pK_inj (a b : Int × Int) (h : pK a = pK b) : a = b := by
 simp [pK] at h
 exact Prod.ext h.1 h.2
def cO (l : List ((Int × Int) × Int)) : GO := match l with
 | [] => .dK []
 | x :: r => .dT ((x :: r).map fun p => (pK p.1,T.int p.2))
theorem cO_ne {l : List ((Int × Int) × Int)} (h : l ≠ []) : cO l = .dT (l.map fun p => (pK p.1,T.int p.2)) := by
 cases l with
 | nil => exact absurd rfl h
 | cons _ _ => rfl
theorem putL_ne {κ α : Type} [DecidableEq κ] {l : List (κ × α)} {k : κ} {x : α} : P.putL l k x ≠ [] := by
 unfold P.putL
 split
 ·intro z
  rename_i h
  rw [List.map_eq_nil_iff] at z
  rw [z] at h
  simp at h
 ·simp
section
variable {G : Gp} {d : Addr} {l : List ((Int × Int) × Int)}
theorem c_get (h : G d = some (cO l)) (q : Int × Int) : dGet (.ref d) (pT q) G = some ((P.getL l q).map T.int) := by
 cases l with
 | nil => simp [dGet,h,cO,dGetK,keyOf_pT,lkOf_pT,okLK_pK,P.getL]
 | cons y r =>
  simp only [dGet,h,cO,dGetT,lkOf_pT,okLK_pK,if_true]
  rw [map_get pK_inj (g := T.int)]
theorem c_set {q : Int × Int} {x : Int} {Q : Gp -> Prop} (h : G d = some (cO l)) (hl : l.length <= 1000000) (k : Q (updG G d (cO (P.putL l q x)))) : set3 (.ref d) (pT q) (.int x) G Q := by
 cases l with
 | nil =>
  simp only [set3,h,cO,keyOf_pT,lkOf_pT]
  exact ⟨okLK_pK q,k⟩
 | cons y r =>
  simp only [set3,h,cO,lkOf_pT]
  refine ⟨okLK_pK q,by simpa using hl,?_⟩
  rw [map_put pK_inj (g := T.int)]
  rw [cO_ne putL_ne] at k
  exact k
end
theorem okN {n : Nat} {S : P.R} (h : P.Ok n S) (hn : n <= 1000) : Fit S :=
 ⟨h.good.n0,by have := h.ln; omega,fun i => by have := h.ak i; omega,fun i b hb => by have := h.nt hb; omega⟩
end Rm
namespace Rm
open PySem L2 L3
def kindOf : M.Let -> Str
 | .prepare _ => "prepare"
 | .promise _ _ _ => "promise"
 | .ask _ _ => "ask"
 | .vote _ _ _ => "vote"
def letTs : M.Let -> List T
 | .prepare b => [.str "prepare",.int b]
 | .promise b v l => [.str "promise",.int b,.int v,oP l]
 | .ask b w => [.str "ask",.int b,.int w]
 | .vote b v w => [.str "vote",.int b,.int v,.int w]
theorem letT_eq (x : M.Let) : zbV x = .tup (letTs x) := by cases x <;> rfl
theorem letTs_0 (x : M.Let) : (letTs x)[0]? = some (.str (kindOf x)) := by cases x <;> rfl
theorem letTs_1 (x : M.Let) : (letTs x)[1]? = some (.int x.bal) := by cases x <;> rfl
theorem cut2 (x : M.Let) : cutT (letTs x) none (some 2) = [.str (kindOf x),.int x.bal] := by cases x <;> rfl
theorem ok_kind (x : M.Let) : PyData.strOk (kindOf x) = true := by cases x <;> first | exact ok1 | exact ok2 | exact ok3' | exact ok4
end Rm
namespace Rm
open PySem L2 L3
theorem counts_len (L : List M.Let) : (P.counts L).length <= L.length := by
 have key : ∀ (L : List M.Let) (l : List ((Int × Int) × Int)),(L.foldl P.tally l).length <= l.length + L.length := by
  intro L
  induction L with
  | nil => intro l; simp
  | cons x r ih =>
   intro l
   rw [List.foldl_cons]
   have h1 := ih (P.tally l x)
   have h2 : (P.tally l x).length <= l.length + 1 := by
    cases x with
    | vote b v w => exact putL_len _ _ _
    | _ => simp [P.tally]
   simp
   omega
 have := key L []
 simpa [P.counts] using this
end Rm
namespace Rm
open PySem L2 L3
theorem c_getF {G : Gp} {d : Addr} {ob : Obj} {l : List ((Int × Int) × Int)} (h : G d = some (.dG ob (l.map fun p => (pK p.1,T.int p.2)))) (q : Int × Int) : dGet (.ref d) (pT q) G = some ((P.getL l q).map T.int) := by
 simp only [dGet,h,dGetT,lkOf_pT,okLK_pK,if_true]
 rw [map_get pK_inj (g := T.int)]
def wonT (L : List M.Let) (m : Nat) (t : T) : Bool := match pairOf t with
 | some q => decide ((m : Int) < 2 * (P.getL (P.counts L) q).getD 0)
 | none => false
theorem won_T (L : List M.Let) (m : Nat) : (((P.counts L).map fun p => pT p.1).filter (wonT L m)) = (P.won L m).map pT := by
 unfold P.won
 have key : ∀ l : List ((Int × Int) × Int),(∀ p ∈ l,P.getL (P.counts L) p.1 = some p.2) -> ((l.map fun p => pT p.1).filter (wonT L m)) = (((l.filter fun p => decide ((m : Int) < 2 * p.2)).map (·.1)).map pT) := by
  intro l
  induction l with
  | nil => intro _; rfl
  | cons p r ih =>
   intro h
   have h1 := h p List.mem_cons_self
   have e : wonT L m (pT p.1) = decide ((m : Int) < 2 * p.2) := by
    have : pairOf (pT p.1) = some p.1 := rfl
    simp only [wonT,this,h1,Option.getD_some]
   have ih := ih fun x hx => h x (List.mem_cons_of_mem _ hx)
   rw [List.map_cons,List.filter_cons,List.filter_cons,e]
   split
   ·rw [ih]; rfl
   ·exact ih
 exact key _ fun p hp => P.getL_mem (P.counts_nodup L) hp
end Rm
namespace Rm
open PySem L2 L3
theorem onDct_c {G : Gp} {d : Addr} {l : List ((Int × Int) × Int)} {Q : Prop} (h : G d = some (cO l)) (q : Q) : onDct (.ref d) G Q := by
 cases l with
 | nil => simp only [onDct,h,cO]; exact q
 | cons _ _ => simp only [onDct,h,cO]; exact q
theorem ixA_get {G : Gp} {x y v : T} {Q : VK3} (h : dGet x y G = some (some v)) (q : Q v G) : ixA x y G Q := by
 simp only [ixA,h]; exact q
theorem get3_c {G : Gp} {d : Addr} {l : List ((Int × Int) × Int)} {k : Int × Int} {z : Int} {Q : VK3} (h : G d = some (cO l)) (q : Q (.int ((P.getL l k).getD z)) G) : get3 (.ref d) (pT k) (.int z) G Q := by
 simp only [get3,c_get h]
 cases e : P.getL l k <;> rw [e] at q <;> exact q
end Rm
set_option Elab.async false
set_option linter.all false
set_option maxRecDepth 100000
set_option maxHeartbeats 4000000
namespace Rm
open PySem L2 L3
inductive Ac where
 | begin (i : Nat) (l : Int) | fall (i : Nat) | bring (k v : Nat)
def actT : Ac -> T
 | .begin i l => .tup [.str "begin",.int i,.int l]
 | .fall i => .tup [.str "fall",.int i]
 | .bring k v => .tup [.str "bring",.int k,.int v]
def Ac.run (S : P.R) : Ac -> P.R
 | .begin i l => S.begin i l
 | .fall i => S.fall i
 | .bring k v => S.bring k v
def Ac.fits (S : P.R) : Ac -> Prop
 | .begin i l => i < S.wishes.length /\ 0 <= l
 | .fall i => i < S.wishes.length
 | .bring k v => k < S.letters.length /\ v < S.many
def Ac.cost : Ac -> Nat
 | .begin _ _ => 1
 | _ => 0
theorem Ac.ok {n : Nat} {S : P.R} {a : Ac} (h : P.Ok n S) (f : a.fits S) : P.Ok (n + a.cost) (a.run S) := by
 cases a with
 | begin i l => exact h.begin f.1 f.2
 | fall i => exact h.fall i
 | bring k v => exact h.bring k f.2
theorem Ac.grow (S : P.R) (a : Ac) : P.Grow S (a.run S) := by
 cases a with
 | begin i l => exact P.Grow.begin S i l
 | fall i => exact P.Grow.fall S i
 | bring k v => exact P.Grow.bring S k v
structure Hs (Z : Cz) (n : Nat) (dn r : Addr) (G : Gp) (A : Adr) (S : P.R) (k : Nat) : Prop where
 R : RoomAt Z G A S
 ok : P.Ok n S
 er : A .r = r
 dl : ∃ ds,G dn = some (.lst ds) /\ ds.length <= k
 nd : ¬ own A S dn
inductive Runs : P.R -> List Ac -> P.R -> Prop
 | nil (S : P.R) : Runs S [] S
 | cons {S S' : P.R} {a : Ac} {as : List Ac} (f : a.fits S) (r : Runs (a.run S) as S') : Runs S (a :: as) S'
theorem Runs.append {S S' S'' : P.R} {as bs : List Ac} (x : Runs S as S') (y : Runs S' bs S'') : Runs S (as ++ bs) S'' := by
 induction x with
 | nil => exact y
 | cons f _ ih => exact .cons f (ih y)
theorem Runs.grow {S S' : P.R} {as : List Ac} (x : Runs S as S') : P.Grow S S' := by
 induction x with
 | nil => exact P.Grow.refl _
 | cons f _ ih => exact (Ac.grow _ _).trans ih
structure Mv (dn : Addr) (as : List Ac) (G : Gp) (A : Adr) (S : P.R) (G' : Gp) (A' : Adr) (S' : P.R) : Prop where
 ex : Runs S as S'
 dl : ∀ ds,G dn = some (.lst ds) -> G' dn = some (.lst (ds ++ as.map actT))
 fr : ∀ a o,a ≠ dn -> ¬ own A S a -> G a = some o -> G' a = some o /\ ¬ own A' S' a
section
variable {Z : Cz} {n k : Nat} {dn r : Addr} {as bs : List Ac} {G G' G2 : Gp} {A A' A2 : Adr} {S S' S2 : P.R}
theorem Mv.gr (m : Mv dn as G A S G' A' S') : P.Grow S S' := m.ex.grow
theorem Mv.refl : Mv dn [] G A S G A S := ⟨.nil S,fun ds e => by simpa using e,fun a o _ h e => ⟨e,h⟩⟩
theorem Mv.trans (a : Mv dn as G A S G' A' S') (b : Mv dn bs G' A' S' G2 A2 S2) : Mv dn (as ++ bs) G A S G2 A2 S2 :=
 ⟨a.ex.append b.ex,fun ds e => by rw [b.dl _ (a.dl ds e),List.map_append,List.append_assoc],fun x o hx h e => let ⟨h1,h2⟩ := a.fr x o hx h e; b.fr x o hx h2 h1⟩
theorem Mv.ext (x : Ext G G') : Mv dn [] G A S G' A S := ⟨.nil S,fun ds e => by simpa using x _ _ e,fun a o _ h e => ⟨x a o e,h⟩⟩
theorem Hs.ext (h : Hs Z n dn r G A S k) (x : Ext G G') : Hs Z n dn r G' A S k := ⟨h.R.ext x,h.ok,h.er,let ⟨ds,e,l⟩ := h.dl; ⟨ds,x _ _ e,l⟩,h.nd⟩
theorem Hs.more (h : Hs Z n dn r G A S k) {k' : Nat} (hk : k <= k') : Hs Z n dn r G A S k' := ⟨h.R,h.ok,h.er,let ⟨ds,e,l⟩ := h.dl; ⟨ds,e,by omega⟩,h.nd⟩
end
def mix (c p m : Int) : Int := c * 48271 % p % m
theorem zbM (c p m : Int) (h : 0 < m) : 0 <= mix c p m /\ mix c p m < m := ⟨Int.emod_nonneg _ (by omega),Int.emod_lt_of_pos _ h⟩
def popIx (c : Int) (m j : Nat) : Nat := (mix (c + 5 * (j : Int)) 9883 ((m : Int) - (j : Int))).toNat
def popS (c : Int) (m : Nat) : Nat -> List Nat × List Nat
 | 0 => (List.range m,[])
 | j + 1 => ((popS c m j).1.eraseIdx (popIx c m j),(popS c m j).2 ++ [(popS c m j).1.getD (popIx c m j) 0])
def someL (c : Int) (m k : Nat) : List Nat := (popS c m k).2
theorem popIx_lt {c : Int} {m j : Nat} (h : j < m) : popIx c m j < m - j := by
 have := zbM (c + 5 * (j : Int)) 9883 ((m : Int) - (j : Int)) (by omega)
 unfold popIx; omega
theorem popS_len {c : Int} {m : Nat} : ∀ {j : Nat},j <= m -> (popS c m j).1.length = m - j /\ (popS c m j).2.length = j
 | 0,_ => by simp [popS]
 | j + 1,h => by
  obtain ⟨h1,h2⟩ := popS_len (c := c) (m := m) (j := j) (by omega)
  have h3 := popIx_lt (c := c) (m := m) (j := j) (by omega)
  simp only [popS,List.length_append,List.length_singleton,h2,List.length_eraseIdx,h1]
  refine ⟨?_,trivial⟩
  rw [if_pos (by omega)]
  omega
theorem popS_lt {c : Int} {m : Nat} : ∀ {j : Nat},j <= m -> (∀ v ∈ (popS c m j).1,v < m) /\ ∀ v ∈ (popS c m j).2,v < m
 | 0,_ => by simp [popS]
 | j + 1,h => by
  obtain ⟨h1,h2⟩ := popS_lt (c := c) (m := m) (j := j) (by omega)
  have h3 := popIx_lt (c := c) (m := m) (j := j) (by omega)
  have h4 := (popS_len (c := c) (m := m) (j := j) (by omega)).1
  simp only [popS]
  refine ⟨fun v hv => h1 v (List.mem_of_mem_eraseIdx hv),fun v hv => ?_⟩
  rcases List.mem_append.mp hv with hv | hv
  ·exact h2 v hv
  ·have hv := List.mem_singleton.mp hv
   have hlt : popIx c m j < (popS c m j).1.length := by omega
   have : (popS c m j).1.getD (popIx c m j) 0 = (popS c m j).1[popIx c m j] := by simp [hlt]
   rw [hv,this]
   exact h1 _ (List.getElem_mem hlt)
theorem someL_len {c : Int} {m k : Nat} (h : k <= m) : (someL c m k).length = k := (popS_len h).2
theorem someL_lt {c : Int} {m k : Nat} (h : k <= m) : ∀ v ∈ someL c m k,v < m := (popS_lt h).2
theorem okb1 : PyData.strOk ("begin" : Str) = true := by decide +kernel
theorem okb2 : PyData.strOk ("fall" : Str) = true := by decide +kernel
theorem okb3 : PyData.strOk ("bring" : Str) = true := by decide +kernel
theorem sb12 : ("begin" : Str) ≠ "fall" := by decide
theorem sb13 : ("begin" : Str) ≠ "bring" := by decide
theorem sb23 : ("fall" : Str) ≠ "bring" := by decide
theorem enumL_drop {us : List T} {k : Nat} (h : k < us.length) : (zbR us).drop k = .tup [.int k,us.getD k .non] :: (zbR us).drop (k + 1) := by
 have hl : k < (zbR us).length := by simp [zbR,h]
 rw [List.drop_eq_getElem_cons hl]
 congr 1
 simp [zbR,h]
section
variable {Z : Cz} {n k : Nat} {dn r : Addr} {G G' G2 : Gp} {A A' A2 : Adr} {S S' S2 : P.R}
theorem do_end {ds : List T} {a : Ac} (f : a.fits S) (R' : RoomAt Z G' A' (a.run S)) (F : Fr G A S G' A' (a.run S)) (ea : A' .r = r) (ok : P.Ok n S) (hds : G dn = some (.lst ds)) (hl : ds.length <= k) (nd : ¬ own A S dn) :
  Hs Z (n + a.cost) dn r (updG G' dn (.lst (ds ++ [actT a]))) A' (a.run S) (k + 1) /\ Mv dn [a] G A S (updG G' dn (.lst (ds ++ [actT a]))) A' (a.run S) := by
 have g := F dn _ nd hds
 refine ⟨⟨R'.beside g.2,Ac.ok ok f,ea,⟨_,zaa,by simp; omega⟩,g.2⟩,⟨.cons f (.nil _),fun ds' e => ?_,fun a o ha h e => ?_⟩⟩
 ·rw [hds] at e; cases e; exact zaa
 ·have := F a o h e
  exact ⟨by rw [zac ha]; exact this.1,this.2⟩
end
theorem bestL_ge {lt : Int -> Int -> Bool} (hlt : ∀ a b,lt a b = true -> a <= b) : ∀ (r : List Int) (x : Int),x <= bestL lt x r
 | [],x => Int.le_refl _
 | y :: r,x => by
  unfold bestL
  rw [List.foldl_cons]
  have ih := bestL_ge hlt r (if lt x y then y else x)
  unfold bestL at ih
  refine Int.le_trans ?_ ih
  split
  ·rename_i h; exact hlt _ _ h
  ·exact Int.le_refl _
end Rm
namespace Rm
open PySem L2 L3
theorem Hs.up {Z : Cz} {n n' k : Nat} {dn r : Addr} {G : Gp} {A : Adr} {S : P.R} (h : Hs Z n dn r G A S k) (hn : n <= n') : Hs Z n' dn r G A S k := ⟨h.R,h.ok.mono hn,h.er,h.dl,h.nd⟩
end Rm
set_option Elab.async false
set_option linter.all false
set_option maxRecDepth 100000
set_option maxHeartbeats 4000000
namespace Rm
open PySem L2 L3
structure Two (Z : Cz) (G : Gp) (A : Adr) (S : P.R) (B : Adr) (U : P.R) : Prop where
 R1 : RoomAt Z G A S
 R2 : RoomAt Z G B U
 ap : ∀ s t,live S s -> live U t -> A s ≠ B t
section
variable {Z : Cz} {G G' : Gp} {A A' B B' : Adr} {S S' U U' : P.R}
end
end Rm
namespace P
end P
set_option Elab.async false
set_option linter.all false
set_option maxRecDepth 100000
set_option maxHeartbeats 4000000
namespace Rm
open PySem L2 L3
def wishL (ns : List Int) : List Int := (List.range (1 + mix (cellI ns 0) 9973 4).toNat).map fun (k : Nat) => (cellI ns 1 + 31 * (k : Int)) % 10 ^ 9 - 99 * ((k : Int) % 2)
def runs (S : P.R) (as : List Ac) : P.R := as.foldl (fun S a => a.run S) S
end Rm
namespace Rm
open PySem L2 L3
end Rm
set_option Elab.async false
set_option linter.all false
set_option maxRecDepth 100000
set_option maxHeartbeats 4000000
namespace Rm
open PySem L2 L3
end Rm
namespace Rm
open PySem L2 L3
end Rm
namespace Rm
open PySem L2 L3
end Rm
set_option Elab.async false
set_option linter.all false
set_option maxRecDepth 100000
set_option maxHeartbeats 4000000
namespace Rm
open PySem L2 L3
theorem good_one {S : P.R} (g : P.Good S) {b w b' w' : Int} (h : P.Chosen S b w) (h' : P.Chosen S b' w') : w = w' := by
 obtain ⟨D,s,I⟩ := g
 exact M.one I ((P.chosen_iff s I).mp h) ((P.chosen_iff s I).mp h')
def wishO : List (Int × Int) -> Option Int
 | [] => none
 | q :: _ => some q.2
theorem chosen_grow {S S' : P.R} (g : P.Grow S S') {b w : Int} (h : P.Chosen S b w) : P.Chosen S' b w := by
 unfold P.Chosen at h ⊢
 obtain ⟨r,e⟩ := g.l
 rw [g.m,<- e]
 unfold P.voted at h ⊢
 rw [List.filterMap_append,List.length_append]
 omega
section
variable {S S1 S2 S3 S4 : P.R} {i : Nat} {b w : Int}
end
end Rm
set_option Elab.async false
set_option linter.all false
set_option maxRecDepth 100000
set_option maxHeartbeats 4000000
namespace Rm
open PySem L2 L3
theorem in_ints {G : Gp} {y : T} {zs : List Int} (z : Int) (h : zbm y G = some (zs.map T.int)) : inSeq (.int z) y G = some (decide (z ∈ zs)) := by
 simp only [inSeq,h,toD]
 rw [allD_map (g := T.int) (k := PyData.int) (fun x => by simp [toD]) zs]
 simp only [Option.map_some,Option.some.injEq]
 rw [Bool.eq_iff_iff,List.any_eq_true,decide_eq_true_eq]
 constructor
 ·rintro ⟨d,hd,e⟩
  obtain ⟨x,hx,rfl⟩ := List.mem_map.mp hd
  rw [eqvI] at e
  have := of_decide_eq_true e
  subst this; exact hx
 ·intro h
  exact ⟨_,List.mem_map.mpr ⟨z,h,rfl⟩,by rw [eqvI]; simp⟩
theorem wInA_ints {G : Gp} {y : T} {zs : List Int} {z : Int} {f : Bool -> Bool} {Q : VK3} (h : zbm y G = some (zs.map T.int)) (q : Q (.bl (f (decide (z ∈ zs)))) G) : wInA f (.int z) y G Q := by
 simp only [wInA,in_ints z h]; exact q
theorem lst3_at {x : T} {G : Gp} {Q : VK3} {us : List T} (h : zbm x G = some us) (q : ∀ p,G p = none -> Q (.ref p) (updG G p (.lst us))) : lst3 [x] G Q := by
 simp only [lst3,h]; exact q
section
variable {G : Gp} {q : Addr} {Q : VK3}
theorem lenA_tup {us : List T} (k : Q (.int us.length) G) : lenA3 [.tup us] G Q := k
theorem truT_bl (b : Bool) (G : Gp) : truT (.bl b) G = some b := rfl
end
end Rm

set_option Elab.async false
set_option linter.all false
set_option maxRecDepth 100000
set_option maxHeartbeats 4000000
namespace My
open PySem L2 L3 Rm
def top (i : Nat) : Stmt := PySem.Challenge.pw_onechoice_k04_whole_one_choice.main.body.getD i (.Pass ⟨0,0,0,0⟩)
section
variable {Pg : Program} {w : World} {K : PySem.W.Frag} {mg : Str -> Option Value} {base : Heap} {Z : Cz}
def zb5 (Z : Cz) : Sp3 := fun ts G Q => match ts with
 | [.int b] => Q (zbV (.prepare b)) G
 | _ => False
abbrev zb9 : Stmt := top 11
theorem sc_prepare : FnScope ["ballot"] ["ballot"] (zab zb9) := ⟨rfl,rfl,rfl,by decide +kernel,rfl,by decide +kernel,by decide +kernel⟩
local macro_rules
 | `(tactic| simp! [$xs,*]) => `(tactic| simp [wSeq,wIfS,zcf,wRet,wRetN,wOp,wVar,wC,iI,iI0,start3,wCB,za3,wNil,lenA3,zbm,ix3,ixA,dGet,wNext,wSet,wCall,wTup,wLst,wTru,truT,wAnd,wOr,wNot,wAndV,wOrV,wNotV,wNotT,wIsN,wNotN,isN,wFld,zbn,wMeth,wMeth0,wMake,wDrop,wAsg,hName,hSub,wDNew,tupI,itemsT,iR1,iR2,wTrue,wIsi,isInt,isBool,zbN,mx3,mn3,wSlice,wP0,wP1,zbT,wApp,app3,onLst,vis3,iSeq,wNever,hTup,hCons,hNil,wGet1,wGet2,get3,onDct,$xs,*])
 | `(tactic| simp_arith [$xs,*]) => `(tactic| simp [wSeq,wIfS,zcf,wRet,wRetN,wOp,wVar,wC,iI,iI0,start3,wCB,za3,wNil,lenA3,wNext,wSet,wCall,wTup,wLst,wTru,truT,wAnd,wOr,wNot,wAndV,wOrV,wNotV,wNotT,wIsN,wNotN,isN,wFld,zbn,wMeth,wMeth0,wMake,wDrop,wAsg,hName,hSub,wDNew,tupI,itemsT,iR1,iR2,wTrue,wIsi,isInt,isBool,zbN,mx3,mn3,wSlice,wP0,wP1,zbT,wApp,vis3,iSeq,wNever,hTup,hCons,hNil,wGet1,wGet2,wLR,wPop,wComp,$xs,*])
 | `(tactic| simp_all_arith [$xs,*]) => `(tactic| simp [wSeq,wIfS,zcf,wRet,wRetN,wOp,wVar,wC,iI,iI0,start3,wCB,za3,wNil,wNext,wSet,wCall,wTup,wLst,wTru,wAnd,wOr,wNot,wAndV,wOrV,wNotV,wNotT,wIsN,wNotN,isN,wFld,zbn,wMeth,wMeth0,wMake,wDrop,wAsg,hName,hSub,wDNew,iR1,iR2,wTrue,wIsi,isInt,isBool,zbN,mx3,mn3,wSlice,wP0,wP1,zbT,wApp,vis3,iSeq,wNever,hTup,hCons,hNil,wGet1,wGet2,wLR,wPop,wComp,$xs,*])
 | `(tactic| simp_arith! [$xs,*]) => `(tactic| simp [wSeq,wIfS,zcf,wRet,wRetN,wOp,wVar,wC,iI,iI0,start3,wCB,za3,wNil,lenA3,wNext,wSet,wCall,wTup,wLst,wTru,truT,wAnd,wOr,wNot,wAndV,wOrV,wNotV,wNotT,wIsN,wNotN,isN,wFld,zbn,wMeth,wMeth0,wMake,wDrop,wAsg,hName,hSub,wDNew,tupI,itemsT,iR1,iR2,wTrue,wIsi,isInt,isBool,zbN,mx3,mn3,wSlice,wP0,wP1,zbT,wApp,vis3,iSeq,wNever,hTup,hCons,hNil,wGet1,wGet2,get3,onDct,zbV,at0,$xs,*])
theorem ok_prepare {f : Addr} {fd : FuncData} (F : Fun K "prepare" "prepare" zb9 f fd) (aT : At K Z) (g_PREPARE : ∃ t,mg "PREPARE" = some (.str "prepare" t)) : FOk Pg w K mg base 1 f fd ["ballot"] (zb5 Z) := by
 refine ok3 F sc_prepare (fun ts G Q h => ?_) (fun cdv A outer s H E hr => ?_)
 ·unfold zb5 at h; split at h <;> first | rfl | exact h.elim
 ·refine ⟨_,(zaL (zbZ (qtup (qa (qgs1 g_PREPARE) (qa (qv 0) qa0))))),fun ts G Q h => ?_⟩
  unfold zb5 at h
  split at h
  case h_2 => exact h.elim
  simp! []
  exact h
def zbC (Z : Cz) : Sp3 := fun ts G Q => ∃ p,ts = [.ref p] /\ G p = some (.ins Z.P []) /\ ∀ q d,G q = none -> G d = none -> q ≠ d -> Q .non (updG (updG (updG G q (.lst [])) d (.dK [])) p (.ins Z.P (fP (.ref q) (.ref d))))
abbrev zaJ : Stmt := zas (top 15) 0
theorem sc_Pile___init__ : FnScope ["self"] ["self"] (zab zaJ) := ⟨rfl,rfl,rfl,by decide +kernel,rfl,by decide +kernel,by decide +kernel⟩
theorem ok_Pile___init__ {f : Addr} {fd : FuncData} (F : Fun K "__init__" "Pile.__init__" zaJ f fd) (aT : At K Z)  : FOk Pg w K mg base 1 f fd ["self"] (zbC Z) := by
 refine ok3 F sc_Pile___init__ (fun ts G Q h => ?_) (fun cdv A outer s H E hr => ?_)
 ·obtain ⟨p,rfl,_⟩ := h; rfl
 ·refine ⟨_,(qss (zar (qv 0) (qlst qa0))
   (zaL (zar (qv 0) qdnew))),fun ts G Q h => ?_⟩
  obtain ⟨p,rfl,hp,h⟩ := h
  simp! []
  intro q hq
  have n1 := neG hp hq
  refine zai (by rw [zac n1]; exact hp) aT.row rfl ?_
  intro d hd
  have n2 : d ≠ p := by rintro rfl; rw [zaa] at hd; cases hd
  have n3 : d ≠ q := by rintro rfl; rw [zac n2,zaa] at hd; cases hd
  rw [zac n2,zac n3] at hd
  refine zai (by rw [zac (Ne.symm n2)]; exact zaa) aT.written rfl ?_
  rw [updG_swap n2]
  exact h q d hq hd (Ne.symm n3)
def zbh (Z : Cz) : Sp3 := fun ts G Q => ∃ p pr pw L x,ts = [.ref p,zbV x] /\ G p = some (.ins Z.P (fP (.ref pr) (.ref pw))) /\ G pr = some (.lst (L.map zbV)) /\ G pw = some (wrO L) /\ pr ≠ pw /\ L.length <= 1000000 /\
 Q .non (if x ∈ L then G else updG (updG G pw (wrO (L ++ [x]))) pr (.lst ((L ++ [x]).map zbV)))
abbrev zbc : Stmt := zas (top 15) 1
theorem sc_Pile_write : FnScope ["self","letter"] ["self","letter"] (zab zbc) := ⟨rfl,rfl,rfl,by decide +kernel,rfl,by decide +kernel,by decide +kernel⟩
theorem ok_Pile_write {f : Addr} {fd : FuncData} (F : Fun K "write" "Pile.write" zbc f fd) (aT : At K Z)  : FOk Pg w K mg base 1 f fd ["self","letter"] (zbh Z) := by
 refine ok3 F sc_Pile_write (fun ts G Q h => ?_) (fun cdv A outer s H E hr => ?_)
 ·obtain ⟨p,pr,pw,L,x,rfl,_⟩ := h; rfl
 ·refine ⟨_,(qss (qifs (qtin hr (qv 1) (zb2 (qv 0))) (zaL qretN) zaw)
   (qss (qsetix hr qbl (zb2 (qv 0)) (qv 1))
   (zaL (qexpr (qappend (zb2 (qv 0)) (qa (qv 1) qa0)))))),fun ts G Q h => ?_⟩
  obtain ⟨p,pr,pw,L,x,rfl,hp,h1,h2,hne,hl,h⟩ := h
  obtain ⟨r,hg,hr⟩ := wr_get x h2
  simp! []
  refine zad hp fP_written aT.written ?_
  simp only [wInA,wr_in h2,hg,hr]
  by_cases c : x ∈ L
  ·simp only [c,if_true] at h
   simpa [c] using h
  ·simp only [c,if_false] at h
   simp [c]
   refine zad hp fP_written aT.written ?_
   refine wr_set h2 c hl ?_
   have n1 : p ≠ pw := neG2 hp h2 (by cases L <;> simp [wrO])
   have n2 : p ≠ pr := neG2 hp h1 (by simp)
   refine zad (by rw [zac n1]; exact hp) fP_row aT.row ?_
   simp [zac hne,h1,hl]
   simpa using h
def zbi (Z : Cz) : Sp3 := fun ts G Q => ∃ p pr wr L,ts = [.ref p] /\ G p = some (.ins Z.P (fP (.ref pr) wr)) /\ G pr = some (.lst L) /\ Q (.tup L) G
abbrev zaO : Stmt := zas (top 15) 2
theorem sc_Pile_letters : FnScope ["self"] ["self"] (zab zaO) := ⟨rfl,rfl,rfl,by decide +kernel,rfl,by decide +kernel,by decide +kernel⟩
theorem ok_Pile_letters {f : Addr} {fd : FuncData} (F : Fun K "letters" "Pile.letters" zaO f fd) (aT : At K Z) (b_tuple : mg "tuple" = none) : FOk Pg w K mg base 1 f fd ["self"] (zbi Z) := by
 refine ok3 F sc_Pile_letters (fun ts G Q h => ?_) (fun cdv A outer s H E hr => ?_)
 ·obtain ⟨p,pr,wr,L,rfl,_⟩ := h; rfl
 ·refine ⟨_,(zaL (zbZ (qtupleI b_tuple (qa (zb2 (qv 0)) qa0)))),fun ts G Q h => ?_⟩
  obtain ⟨p,pr,wr,L,rfl,hp,h1,h⟩ := h
  simp! []
  refine zad hp fP_row aT.row ?_
  simpa [h1] using h
def zaR (Z : Cz) : Sp3 := fun ts G Q => match ts with
 | [.int i,.int n,.int l] => 0 < n /\ Q (.int (P.ownB i n l)) G
 | _ => False
abbrev za7 : Stmt := top 22
theorem sc_own_ballot : FnScope ["number","askers","least","floor"] ["number","askers","least"] (zab za7) := ⟨rfl,rfl,rfl,by decide +kernel,rfl,by decide +kernel,by decide +kernel⟩
theorem ok_own_ballot {f : Addr} {fd : FuncData} (F : Fun K "own_ballot" "own_ballot" za7 f fd) (aT : At K Z) (b_max : mg "max" = none) : FOk Pg w K mg base 1 f fd ["number","askers","least"] (zaR Z) := by
 refine ok3 F sc_own_ballot (fun ts G Q h => ?_) (fun cdv A outer s H E hr => ?_)
 ·unfold zaR at h; split at h <;> first | rfl | exact h.elim
 ·refine ⟨_,(qss (qset 3 sc_own_ballot.nd (qmax2 b_max (qa (qv 2) (qa (qv 0) qa0))))
   (zaL (zbZ (qadd (qv 3) (qmod (qsub (qv 0) (qv 3)) (qv 1)))))),fun ts G Q h => ?_⟩
  unfold zaR at h
  split at h
  case h_2 => exact h.elim
  simp! []
  exact ⟨h.1,h.2⟩
def zaV (Z : Cz) : Sp3 := fun ts G Q => ∃ a t1 t2 t3 t4,ts = [.ref a,t1,t2,t3,t4] /\ G a = some (.ins Z.A []) /\ ∀ q d,G q = none -> G d = none -> q ≠ d ->
 Q .non (updG (updG (updG G q (.dK [])) d (.dK [])) a (.ins Z.A (fA t1 t2 t3 t4 .non (.int 0) (.ref q) (.ref d))))
abbrev zaC : Stmt := zas (top 23) 0
theorem sc_Asker___init__ : FnScope ["self","number","askers","wish","many"] ["self","number","askers","wish","many"] (zab zaC) := ⟨rfl,rfl,rfl,by decide +kernel,rfl,by decide +kernel,by decide +kernel⟩
theorem ok_Asker___init__ {f : Addr} {fd : FuncData} (F : Fun K "__init__" "Asker.__init__" zaC f fd) (aT : At K Z)  : FOk Pg w K mg base 1 f fd ["self","number","askers","wish","many"] (zaV Z) := by
 refine ok3 F sc_Asker___init__ (fun ts G Q h => ?_) (fun cdv A outer s H E hr => ?_)
 ·obtain ⟨a,t1,t2,t3,t4,rfl,_⟩ := h; rfl
 ·refine ⟨_,(qss (zar (qv 0) (qv 1))
   (qss (zar (qv 0) (qv 2))
   (qss (zar (qv 0) (qv 3))
   (qss (zar (qv 0) (qv 4))
   (qss (zar (qv 0) qnon)
   (qss (zar (qv 0) zaD)
   (qss (zar (qv 0) qdnew)
   (zaL (zar (qv 0) qdnew))))))))),fun ts G Q h => ?_⟩
  obtain ⟨a,t1,t2,t3,t4,rfl,hp,h⟩ := h
  simp! []
  refine zai hp aT.number rfl ?_
  refine zai zaa aT.step rfl ?_
  refine zai zaa aT.wish rfl ?_
  refine zai zaa aT.many rfl ?_
  refine zai zaa aT.ballot rfl ?_
  refine zai zaa aT.fresh rfl ?_
  simp only [zbu]
  intro q hq
  have n1 : q ≠ a := by rintro rfl; rw [zaa] at hq; cases hq
  rw [zac n1] at hq
  refine zai (by rw [zac (Ne.symm n1)]; exact zaa) aT.noted rfl ?_
  rw [updG_swap n1]
  intro d hd
  have n2 : d ≠ a := by rintro rfl; rw [zaa] at hd; cases hd
  have n3 : d ≠ q := by rintro rfl; rw [zac n2,zaa] at hd; cases hd
  rw [zac n2,zac n3] at hd
  refine zai (by rw [zac (Ne.symm n2)]; exact zaa) aT.asked rfl ?_
  rw [updG_swap n2]
  exact h q d hq hd (Ne.symm n3)
def zbY (Z : Cz) : Sp3 := fun ts G Q => ∃ a l i n wi ma ba fr nt ak,ts = [.ref a,.int l] /\ G a = some (.ins Z.A (fA (.int i) (.int n) wi ma ba (.int fr) nt ak)) /\ 0 < n /\ ∀ d,G d = none ->
 Q (zbV (.prepare (P.ownB i n (P.mx l fr)))) (updG (updG G d (.dK [])) a (.ins Z.A (fA (.int i) (.int n) wi ma (.int (P.ownB i n (P.mx l fr))) (.int (P.ownB i n (P.mx l fr) + 1)) (.ref d) ak)))
abbrev zaZ : Stmt := zas (top 23) 1
theorem sc_Asker_begin : FnScope ["self","least"] ["self","least"] (zab zaZ) := ⟨rfl,rfl,rfl,by decide +kernel,rfl,by decide +kernel,by decide +kernel⟩
theorem ok_Asker_begin {f : Addr} {fd : FuncData} (F : Fun K "begin" "Asker.begin" zaZ f fd) (aT : At K Z) (b_max : mg "max" = none) (F_own_ballot : zbS Pg w K mg base 1 "own_ballot" ["number","askers","least"] (zaR Z)) (F_prepare : zbS Pg w K mg base 1 "prepare" ["ballot"] (zb5 Z)) : FOk Pg w K mg base 2 f fd ["self","least"] (zbY Z) := by
 refine ok3 F sc_Asker_begin (fun ts G Q h => ?_) (fun cdv A outer s H E hr => ?_)
 ·obtain ⟨a,l,i,n,wi,ma,ba,fr,nt,ak,rfl,_⟩ := h; rfl
 ·refine ⟨_,(qss (zar (qv 0) (zaP F_own_ballot hr (qa (zb2 (qv 0)) (qa (zb2 (qv 0)) (qa (qmax2 b_max (qa (qv 1) (qa (zb2 (qv 0)) qa0))) qa0)))))
   (qss (zar (qv 0) (qadd (zb2 (qv 0)) zaD))
   (qss (zar (qv 0) qdnew)
   (zaL (zbZ (zaP F_prepare hr (qa (zb2 (qv 0)) qa0))))))),fun ts G Q h => ?_⟩
  obtain ⟨a,l,i,n,wi,ma,ba,fr,nt,ak,rfl,ha,hn,h⟩ := h
  simp! []
  refine zad ha fA_number aT.number ?_
  refine zad ha fA_step aT.step ?_
  refine zad ha fA_fresh aT.fresh ?_
  simp! [zaR]
  refine ⟨hn,?_⟩
  refine zai ha aT.ballot rfl ?_
  simp! []
  refine zad zaa zcb aT.ballot ?_
  simp! []
  refine zai zaa aT.fresh rfl ?_
  simp! []
  rw [zbu]
  intro d hd
  have n1 : d ≠ a := by rintro rfl; rw [zaa] at hd; cases hd
  rw [zac n1] at hd
  refine zai (by rw [zac (Ne.symm n1)]; exact zaa) aT.noted rfl ?_
  simp! []
  rw [updG_swap n1]
  refine zad zaa zcb aT.ballot ?_
  exact h d hd
def zck (Z : Cz) : Sp3 := fun ts G Q => ∃ a nu st wi ma ba fr nt ak,ts = [.ref a] /\ G a = some (.ins Z.A (fA nu st wi ma ba fr nt ak)) /\ Q .non (updG G a (.ins Z.A (fA nu st wi ma .non fr nt ak)))
abbrev zbe : Stmt := zas (top 23) 2
theorem sc_Asker_fall : FnScope ["self"] ["self"] (zab zbe) := ⟨rfl,rfl,rfl,by decide +kernel,rfl,by decide +kernel,by decide +kernel⟩
theorem ok_Asker_fall {f : Addr} {fd : FuncData} (F : Fun K "fall" "Asker.fall" zbe f fd) (aT : At K Z)  : FOk Pg w K mg base 1 f fd ["self"] (zck Z) := by
 refine ok3 F sc_Asker_fall (fun ts G Q h => ?_) (fun cdv A outer s H E hr => ?_)
 ·obtain ⟨a,nu,st,wi,ma,ba,fr,nt,ak,rfl,_⟩ := h; rfl
 ·refine ⟨_,(zaL (zar (qv 0) qnon)),fun ts G Q h => ?_⟩
  obtain ⟨a,nu,st,wi,ma,ba,fr,nt,ak,rfl,ha,h⟩ := h
  simp! []
  refine zai ha aT.ballot rfl ?_
  exact h
def zaT (Z : Cz) : Sp3 := fun ts G Q => ∃ a t,ts = [.ref a,t] /\ G a = some (.ins Z.V []) /\ Q .non (updG G a (.ins Z.V (fV t .non .non)))
abbrev zaz : Stmt := zas (top 25) 0
theorem sc_Voter___init__ : FnScope ["self","number"] ["self","number"] (zab zaz) := ⟨rfl,rfl,rfl,by decide +kernel,rfl,by decide +kernel,by decide +kernel⟩
theorem ok_Voter___init__ {f : Addr} {fd : FuncData} (F : Fun K "__init__" "Voter.__init__" zaz f fd) (aT : At K Z)  : FOk Pg w K mg base 1 f fd ["self","number"] (zaT Z) := by
 refine ok3 F sc_Voter___init__ (fun ts G Q h => ?_) (fun cdv A outer s H E hr => ?_)
 ·obtain ⟨a,t,rfl,_⟩ := h; rfl
 ·refine ⟨_,(qss (zar (qv 0) (qv 1))
   (qss (zar (qv 0) qnon)
   (zaL (zar (qv 0) qnon)))),fun ts G Q h => ?_⟩
  obtain ⟨a,t,rfl,hp,h⟩ := h
  simp! []
  refine zai hp aT.vnumber rfl ?_
  refine zai zaa aT.bound rfl ?_
  refine zai zaa aT.last rfl ?_
  simp only [zbu]
  exact h
def zaM (Z : Cz) : Sp3 := fun ts G Q => ∃ r la L ma pi x t,∃ i : Nat,ts = [.ref r,.int i] /\ G r = some (.ins Z.R (fR ma pi (.ref la) x)) /\ G la = some (.lst L) /\ L[i]? = some t /\ Q t G
abbrev zaI : Stmt := zas (top 27) 15
theorem sc_Room_asker_at : FnScope ["self","asker"] ["self","asker"] (zab zaI) := ⟨rfl,rfl,rfl,by decide +kernel,rfl,by decide +kernel,by decide +kernel⟩
theorem ok_Room_asker_at {f : Addr} {fd : FuncData} (F : Fun K "asker_at" "Room.asker_at" zaI f fd) (aT : At K Z) (b_len : mg "len" = none) : FOk Pg w K mg base 1 f fd ["self","asker"] (zaM Z) := by
 refine ok3 F sc_Room_asker_at (fun ts G Q h => ?_) (fun cdv A outer s H E hr => ?_)
 ·obtain ⟨r,la,L,ma,pi,x,t,i,rfl,_⟩ := h; rfl
 ·refine ⟨_,(qss (qifs (PW.pt (qwor (qtlt (qv 1) zaD) (qw1o (qtge (qv 1) (qlenA b_len (qa (zb2 (qv 0)) qa0)))))) (zaL qnever) zaw)
   (zaL (zbZ (zce hr (zb2 (qv 0)) (qv 1))))),fun ts G Q h => ?_⟩
  obtain ⟨r,la,L,ma,pi,x,t,i,rfl,hr',hla,ht,h⟩ := h
  obtain ⟨hi,hi2⟩ := List.getElem?_eq_some_iff.mp ht
  have e1 : ¬ ((i : Int) < 0) := by omega
  have e2 : ¬ ((L.length : Int) <= (i : Int)) := by omega
  simp! [e1]
  refine zad hr' fR_askers aT.askers ?_
  simp [hla,e2]
  refine ⟨hi,zad hr' fR_askers aT.askers ?_⟩
  simp [hla]
  have e1 : atI L (i : Int) = some t := zb1 ht
  simpa [e1] using h
def zbA (Z : Cz) : Sp3 := fun ts G Q => ∃ r la L ma pi x t,∃ i : Nat,ts = [.ref r,.int i] /\ G r = some (.ins Z.R (fR ma pi x (.ref la))) /\ G la = some (.lst L) /\ L[i]? = some t /\ Q t G
abbrev zaH : Stmt := zas (top 27) 16
theorem sc_Room_voter_at : FnScope ["self","voter"] ["self","voter"] (zab zaH) := ⟨rfl,rfl,rfl,by decide +kernel,rfl,by decide +kernel,by decide +kernel⟩
theorem ok_Room_voter_at {f : Addr} {fd : FuncData} (F : Fun K "voter_at" "Room.voter_at" zaH f fd) (aT : At K Z) (b_len : mg "len" = none) : FOk Pg w K mg base 1 f fd ["self","voter"] (zbA Z) := by
 refine ok3 F sc_Room_voter_at (fun ts G Q h => ?_) (fun cdv A outer s H E hr => ?_)
 ·obtain ⟨r,la,L,ma,pi,x,t,i,rfl,_⟩ := h; rfl
 ·refine ⟨_,(qss (qifs (PW.pt (qwor (qtlt (qv 1) zaD) (qw1o (qtge (qv 1) (qlenA b_len (qa (zb2 (qv 0)) qa0)))))) (zaL qnever) zaw)
   (zaL (zbZ (zce hr (zb2 (qv 0)) (qv 1))))),fun ts G Q h => ?_⟩
  obtain ⟨r,la,L,ma,pi,x,t,i,rfl,hr',hla,ht,h⟩ := h
  obtain ⟨hi,hi2⟩ := List.getElem?_eq_some_iff.mp ht
  have e1 : ¬ ((i : Int) < 0) := by omega
  have e2 : ¬ ((L.length : Int) <= (i : Int)) := by omega
  simp! [e1]
  refine zad hr' fR_voters aT.voters ?_
  simp [hla,e2]
  refine ⟨hi,zad hr' fR_voters aT.voters ?_⟩
  simp [hla]
  have e1 : atI L (i : Int) = some t := zb1 ht
  simpa [e1] using h
def zbg (Z : Cz) : Sp3 := fun ts G Q => ∃ A S,ts = [.ref (A .r)] /\ RoomAt Z G A S /\ Q (.tup (S.letters.map zbV)) G
abbrev zaN : Stmt := zas (top 27) 1
theorem sc_Room_letters : FnScope ["self"] ["self"] (zab zaN) := ⟨rfl,rfl,rfl,by decide +kernel,rfl,by decide +kernel,by decide +kernel⟩
theorem ok_Room_letters {f : Addr} {fd : FuncData} (F : Fun K "letters" "Room.letters" zaN f fd) (aT : At K Z) (M_Pile_letters : zbD Pg w K mg base 1 Z.P "letters" ["self"] (zbi Z)) : FOk Pg w K mg base 2 f fd ["self"] (zbg Z) := by
 refine ok3 F sc_Room_letters (fun ts G Q h => ?_) (fun cdv A outer s H E hr => ?_)
 ·obtain ⟨A,S,rfl,_⟩ := h; rfl
 ·refine ⟨_,(zaL (zbZ (cmeth0 (zb2 (qv 0)) M_Pile_letters hr))),fun ts G Q h => ?_⟩
  obtain ⟨A,S,rfl,R,h⟩ := h
  simp! []
  refine zad (R.at' .r trivial) fR_pile aT.pile ?_
  refine zaj (R.at' .p trivial) rfl ?_
  exact ⟨_,_,_,_,rfl,R.at' .p trivial,R.at' .pr trivial,h⟩
def zci (Z : Cz) : Sp3 := fun ts G Q => ∃ A S l,∃ i : Nat,ts = [.ref (A .r),.int i,.int l] /\ RoomAt Z G A S /\ i < S.wishes.length /\ S.letters.length <= 1000000 /\
 ∀ A' G',A' .r = A .r -> RoomAt Z G' A' (S.begin i l) -> Fr G A S G' A' (S.begin i l) -> Q (.int ((S.askers i).due i S.wishes.length l)) G'
abbrev zbb : Stmt := zas (top 27) 2
theorem sc_Room_begin : FnScope ["self","asker","least","letter"] ["self","asker","least"] (zab zbb) := ⟨rfl,rfl,rfl,by decide +kernel,rfl,by decide +kernel,by decide +kernel⟩
theorem ok_Room_begin {f : Addr} {fd : FuncData} (F : Fun K "begin" "Room.begin" zbb f fd) (aT : At K Z) (M_Asker_begin : zbD Pg w K mg base 2 Z.A "begin" ["self","least"] (zbY Z)) (M_Pile_write : zbD Pg w K mg base 1 Z.P "write" ["self","letter"] (zbh Z)) (M_Room_asker_at : zbD Pg w K mg base 1 Z.R "asker_at" ["self","asker"] (zaM Z)) : FOk Pg w K mg base 3 f fd ["self","asker","least"] (zci Z) := by
 refine ok3 F sc_Room_begin (fun ts G Q h => ?_) (fun cdv A outer s H E hr => ?_)
 ·obtain ⟨A,S,l,i,rfl,_⟩ := h; rfl
 ·refine ⟨_,(qss (qset 3 sc_Room_begin.nd (cmeth (cmeth (qv 0) (M_Room_asker_at.mono (by decide : 1 <= 2)) hr (qa (qv 1) qa0)) M_Asker_begin hr (qa (qv 2) qa0)))
   (qss (qexpr (cmeth (zb2 (qv 0)) (M_Pile_write.mono (by decide : 1 <= 2)) hr (qa (qv 3) qa0)))
   (zaL (zbZ (zce hr (qv 3) zaD))))),fun ts G Q h => ?_⟩
  obtain ⟨A,S,l,i,rfl,R,hi,hl,h⟩ := h
  simp! []
  refine zaj (R.at' .r trivial) rfl ?_
  refine ⟨_,_,_,_,_,_,.ref (A (.as i)),i,rfl,R.at' .r trivial,R.at' .la trivial,by simp [hi],?_⟩
  refine zaj (R.at' (.as i) hi) rfl ?_
  refine ⟨_,_,_,_,_,_,_,_,_,_,rfl,R.at' (.as i) hi,by omega,fun d hd => ?_⟩
  obtain ⟨R1,F1⟩ := R.begin hi hd ((S.askers i).due i S.wishes.length l) ((S.askers i).due i S.wishes.length l + 1)
  simp! []
  have e0 : M.upd A (.nt i) d .r = A .r := by simp [updA]
  refine zad (e0 ▸ R1.at' .r trivial) fR_pile aT.pile ?_
  refine zaj (R1.at' .p trivial) rfl ?_
  refine ⟨_,_,_,_,_,rfl,R1.at' .p trivial,R1.at' .pr trivial,R1.at' .pw trivial,R1.ne (s := .pr) (t := .pw) trivial trivial (by simp),hl,?_⟩
  obtain ⟨R2,F2⟩ := R1.wrote (.prepare ((S.askers i).due i S.wishes.length l)) rfl
  exact h _ _ e0 R2 (F1.trans F2)
def sp_Room_fall (Z : Cz) : Sp3 := fun ts G Q => ∃ A S,∃ i : Nat,ts = [.ref (A .r),.int i] /\ RoomAt Z G A S /\ i < S.wishes.length /\ ∀ G',RoomAt Z G' A (S.fall i) -> Fr G A S G' A (S.fall i) -> Q .non G'
abbrev zbs : Stmt := zas (top 27) 3
theorem sc_Room_fall : FnScope ["self","asker"] ["self","asker"] (zab zbs) := ⟨rfl,rfl,rfl,by decide +kernel,rfl,by decide +kernel,by decide +kernel⟩
theorem ok_Room_fall {f : Addr} {fd : FuncData} (F : Fun K "fall" "Room.fall" zbs f fd) (aT : At K Z) (M_Asker_fall : zbD Pg w K mg base 1 Z.A "fall" ["self"] (zck Z)) (M_Room_asker_at : zbD Pg w K mg base 1 Z.R "asker_at" ["self","asker"] (zaM Z)) : FOk Pg w K mg base 2 f fd ["self","asker"] (sp_Room_fall Z) := by
 refine ok3 F sc_Room_fall (fun ts G Q h => ?_) (fun cdv A outer s H E hr => ?_)
 ·obtain ⟨A,S,i,rfl,_⟩ := h; rfl
 ·refine ⟨_,(zaL (qexpr (cmeth0 (cmeth (qv 0) M_Room_asker_at hr (qa (qv 1) qa0)) M_Asker_fall hr))),fun ts G Q h => ?_⟩
  obtain ⟨A,S,i,rfl,R,hi,h⟩ := h
  simp! []
  refine zaj (R.at' .r trivial) rfl ?_
  refine ⟨_,_,_,_,_,_,.ref (A (.as i)),i,rfl,R.at' .r trivial,R.at' .la trivial,by simp [hi],?_⟩
  refine zaj (R.at' (.as i) hi) rfl ?_
  exact ⟨_,_,_,_,_,_,_,_,_,rfl,R.at' (.as i) hi,h _ (R.fall hi) (Fr.put (s := .as i) hi fun t => Iff.rfl)⟩
def zaU (Z : Cz) : Sp3 := fun ts G Q => ∃ A S,∃ i : Nat,ts = [.ref (A .r),.int i] /\ RoomAt Z G A S /\ i < S.wishes.length /\ Q (oI (S.askers i).ballot) G
abbrev zaA : Stmt := zas (top 27) 7
theorem sc_Room_ballot_of : FnScope ["self","asker"] ["self","asker"] (zab zaA) := ⟨rfl,rfl,rfl,by decide +kernel,rfl,by decide +kernel,by decide +kernel⟩
theorem ok_Room_ballot_of {f : Addr} {fd : FuncData} (F : Fun K "ballot_of" "Room.ballot_of" zaA f fd) (aT : At K Z) (M_Room_asker_at : zbD Pg w K mg base 1 Z.R "asker_at" ["self","asker"] (zaM Z)) : FOk Pg w K mg base 2 f fd ["self","asker"] (zaU Z) := by
 refine ok3 F sc_Room_ballot_of (fun ts G Q h => ?_) (fun cdv A outer s H E hr => ?_)
 ·obtain ⟨A,S,i,rfl,_⟩ := h; rfl
 ·refine ⟨_,(zaL (zbZ (zb2 (cmeth (qv 0) M_Room_asker_at hr (qa (qv 1) qa0))))),fun ts G Q h => ?_⟩
  obtain ⟨A,S,i,rfl,R,hi,h⟩ := h
  simp! []
  refine zaj (R.at' .r trivial) rfl ?_
  refine ⟨_,_,_,_,_,_,.ref (A (.as i)),i,rfl,R.at' .r trivial,R.at' .la trivial,by simp [hi],?_⟩
  exact zad (R.at' (.as i) hi) zcb aT.ballot h
def zan (Z : Cz) : Sp3 := fun ts G Q => match ts with
 | [.int a,.int b] => Q (.bl (decide (b < 2 * a))) G
 | _ => False
abbrev zax : Stmt := top 17
theorem sc_more_than_half : FnScope ["some","many"] ["some","many"] (zab zax) := ⟨rfl,rfl,rfl,by decide +kernel,rfl,by decide +kernel,by decide +kernel⟩
theorem ok_more_than_half {f : Addr} {fd : FuncData} (F : Fun K "more_than_half" "more_than_half" zax f fd) (aT : At K Z)  : FOk Pg w K mg base 1 f fd ["some","many"] (zan Z) := by
 refine ok3 F sc_more_than_half (fun ts G Q h => ?_) (fun cdv A outer s H E hr => ?_)
 ·unfold zan at h; split at h <;> first | rfl | exact h.elim
 ·refine ⟨_,(zaL (zbZ (qgt (qmul zaD (qv 0)) (qv 1)))),fun ts G Q h => ?_⟩
  unfold zan at h
  split at h
  case h_2 => exact h.elim
  simp! []
  exact ⟨.inl ⟨by decide,by decide⟩,h⟩
theorem askers_loop {W : List Int} {m : Nat} {G0 : Gp} {Q : List T -> Gp -> Prop} : ∀ (j k : Nat) (A : Adr) (G : Gp),k + j = W.length -> Bk (LvA k) (obj Z (P.new W m)) G0 A G ->
  (∀ A' G',(∀ t,LvA 0 t -> A' t = A t) -> Bk (LvA W.length) (obj Z (P.new W m)) G0 A' G' -> Q ((List.range W.length).map fun i => T.ref (A' (.as i))) G') ->
  compL (hTup 2 (hCons (hName 0) (hCons (hName 1) hNil))) wTrue (wMake Z.A (zaV Z) (za3 (wVar 0) (za3 (wCB lenA3 (za3 (wVar 3) wNil)) (za3 (wVar 1) (za3 (wVar 2) wNil))))) (fun _ => True)
   ((zbR (W.map T.int)).drop k) [none,none,some (.int m),some (.tup (W.map T.int))] ((List.range k).map fun i => T.ref (A (.as i))) G Q
 | 0,k,A,G,e,B,h => by
  have ek : k = W.length := by omega
  subst ek
  have : (zbR (W.map T.int)).drop W.length = [] := List.drop_eq_nil_of_le (by simp [zbR])
  rw [this]
  exact ⟨trivial,h A G (fun _ _ => rfl) B⟩
 | j + 1,k,A,G,e,B,h => by
  have hk : k < W.length := by omega
  rw [enum_drop hk]
  simp [compL,wSeq,wIfS,zcf,wRet,wRetN,wOp,wVar,wC,iI,iI0,start3,wCB,za3,wNil,lenA3,zbm,ix3,ixA,dGet,wNext,wSet,wCall,wTup,wLst,wTru,truT,wAnd,wOr,wNot,wAndV,wOrV,wNotV,wNotT,wIsN,wNotN,isN,wFld,zbn,wMeth,wMeth0,wMake,wDrop,wAsg,hName,hSub,wDNew,tupI,itemsT,iR1,iR2,wTrue,wIsi,isInt,isBool,zbN,mx3,mn3,wSlice,wP0,wP1,zbT,wApp,app3,onLst,vis3,iSeq,wNever,hTup,hCons,hNil,wGet1,wGet2,get3,onDct]
  intro x hx
  refine ⟨x,_,_,_,_,rfl,zaa,fun q d hq hd hqd => ?_⟩
  have n1 : q ≠ x := by rintro rfl; rw [zaa] at hq; cases hq
  have n2 : d ≠ x := by rintro rfl; rw [zaa] at hd; cases hd
  rw [zac n1] at hq
  rw [zac n2] at hd
  rw [updG_swap2 n1 n2]
  obtain ⟨A',hA,hx',B'⟩ := B.asker hx hq hd n1 n2 hqd
  have ih := askers_loop (Q := Q) j (k + 1) A' _ (by omega) B' fun A2 G2 e2 B2 => h A2 G2 (fun t ht => (e2 t ht).trans (hA t (by cases t <;> simp [LvA] at ht ⊢))) B2
  have ea : ((List.range (k + 1)).map fun i => T.ref (A' (.as i))) = ((List.range k).map fun i => T.ref (A (.as i))) ++ [.ref x] := by
   rw [List.range_succ,List.map_append]
   congr 1
   ·refine List.map_congr_left fun i hi => ?_
    rw [hA (.as i) (List.mem_range.mp hi)]
   ·simp [hx']
  rw [ea] at ih
  exact ih
theorem voters_loop {W : List Int} {m : Nat} {G0 : Gp} {Q : List T -> Gp -> Prop} : ∀ (j k : Nat) (A : Adr) (G : Gp),k + j = m -> Bk (LvV W.length k) (obj Z (P.new W m)) G0 A G ->
  (∀ A' G',(∀ t,LvA 0 t ∨ t = .la -> A' t = A t) -> Bk (LvV W.length m) (obj Z (P.new W m)) G0 A' G' -> Q ((List.range m).map fun i => T.ref (A' (.vs i))) G') ->
  compL (hName 0) wTrue (wMake Z.V (zaT Z) (za3 (wVar 0) wNil)) (fun _ => True) ((rngT 0 m).drop k) [none] ((List.range k).map fun i => T.ref (A (.vs i))) G Q
 | 0,k,A,G,e,B,h => by
  have ek : k = m := by omega
  subst ek
  have : (rngT 0 (k : Int)).drop k = [] := List.drop_eq_nil_of_le (by simp [rngT])
  rw [this]
  exact ⟨trivial,h A G (fun _ _ => rfl) B⟩
 | j + 1,k,A,G,e,B,h => by
  have hk : k < m := by omega
  rw [rng_drop hk]
  simp [compL,wSeq,wIfS,zcf,wRet,wRetN,wOp,wVar,wC,iI,iI0,start3,wCB,za3,wNil,lenA3,zbm,ix3,ixA,dGet,wNext,wSet,wCall,wTup,wLst,wTru,truT,wAnd,wOr,wNot,wAndV,wOrV,wNotV,wNotT,wIsN,wNotN,isN,wFld,zbn,wMeth,wMeth0,wMake,wDrop,wAsg,hName,hSub,wDNew,tupI,itemsT,iR1,iR2,wTrue,wIsi,isInt,isBool,zbN,mx3,mn3,wSlice,wP0,wP1,zbT,wApp,app3,onLst,vis3,iSeq,wNever,hTup,hCons,hNil,wGet1,wGet2,get3,onDct]
  intro x hx
  refine ⟨x,_,rfl,zaa,?_⟩
  rw [zbu]
  obtain ⟨A',hA,hx',B'⟩ := B.voter hx
  have ih := voters_loop (Q := Q) j (k + 1) A' _ (by omega) B' fun A2 G2 e2 B2 => h A2 G2 (fun t ht => (e2 t ht).trans (hA t (by cases t <;> simp [LvA,LvV] at ht ⊢))) B2
  have ea : ((List.range (k + 1)).map fun i => T.ref (A' (.vs i))) = ((List.range k).map fun i => T.ref (A (.vs i))) ++ [.ref x] := by
   rw [List.range_succ,List.map_append]
   congr 1
   ·refine List.map_congr_left fun i hi => ?_
    rw [hA (.vs i) (List.mem_range.mp hi)]
   ·simp [hx']
  rw [ea] at ih
  exact ih
def zbB (Z : Cz) : Sp3 := fun ts G Q => ∃ r W,∃ m : Nat,ts = [.ref r,.tup (W.map T.int),.int m] /\ G r = some (.ins Z.R []) /\ W.length <= 1000 /\ m <= 1000 /\ ∀ A G',A .r = r -> RoomAt Z G' A (P.new W m) -> (∀ a o,a ≠ r -> G a = some o -> G' a = some o /\ ¬ own A (P.new W m) a) -> Q .non G'
abbrev zaq : Stmt := zas (top 27) 0
theorem sc_Room___init__ : FnScope ["self","wishes","many"] ["self","wishes","many"] (zab zaq) := ⟨rfl,rfl,rfl,by decide +kernel,rfl,by decide +kernel,by decide +kernel⟩
theorem ok_Room___init__ {f : Addr} {fd : FuncData} (F : Fun K "__init__" "Room.__init__" zaq f fd) (aT : At K Z) (b_enumerate : mg "enumerate" = none) (b_len : mg "len" = none) (b_range : mg "range" = none) (N_Asker : MkAt Pg w K mg base 1 "Asker" Z.A ["self","number","askers","wish","many"] (zaV Z)) (N_Pile : MkAt Pg w K mg base 1 "Pile" Z.P ["self"] (zbC Z)) (N_Voter : MkAt Pg w K mg base 1 "Voter" Z.V ["self","number"] (zaT Z)) : FOk Pg w K mg base 3 f fd ["self","wishes","many"] (zbB Z) := by
 refine ok3 F sc_Room___init__ (fun ts G Q h => ?_) (fun cdv A outer s H E hr => ?_)
 ·obtain ⟨r,W,m,rfl,_⟩ := h; rfl
 ·refine ⟨_,(qss (zar (qv 0) (qv 2))
   (qss (zar (qv 0) (cmake0 N_Pile hr))
   (qss (zar (qv 0) (qcomp ["number","wish","many","wishes"] [none,none,some 2,some 1] (blkOk (oN := ["self","wishes","many"]) (osc := zab zaq) rfl rfl (by decide +kernel)) (qi_enum b_enumerate (qa (qv 1) qa0)) (fun _ _ _ _ => (qgtup (n := 2) (qgs (zbz 0 (show List.Nodup (["number","wish","many","wishes"] : List Str) by decide +kernel)) (qgs (zbz 1 (show List.Nodup (["number","wish","many","wishes"] : List Str) by decide +kernel)) qgs0)))) (fun _ _ _ _ => qifs0) (fun _ _ _ _ => (cmake N_Asker hr (qa (qv 0) (qa (qlenA b_len (qa (qv 3) qa0)) (qa (qv 1) (qa (qv 2) qa0))))))))
   (zaL (zar (qv 0) (qcomp ["number"] [none] (blkOk (oN := ["self","wishes","many"]) (osc := zab zaq) rfl rfl (by decide +kernel)) (qi_r1 b_range (qa (qv 2) qa0)) (fun _ _ _ _ => (zbz 0 (show List.Nodup (["number"] : List Str) by decide +kernel))) (fun _ _ _ _ => qifs0) (fun _ _ _ _ => (cmake N_Voter hr (qa (qv 0) qa0))))))))),fun ts G Q h => ?_⟩
  obtain ⟨r,W,m,rfl,hr',hW,hm,h⟩ := h
  simp! []
  refine zai hr' aT.rmany rfl ?_
  simp! []
  intro p hp
  have np : p ≠ r := by rintro rfl; rw [zaa] at hp; cases hp
  rw [zac np] at hp
  refine ⟨p,rfl,zaa,fun q d hq hd hqd => ?_⟩
  have n1 : q ≠ p := by rintro rfl; rw [zaa] at hq; cases hq
  have n2 : d ≠ p := by rintro rfl; rw [zaa] at hd; cases hd
  rw [zac n1] at hq
  rw [zac n2] at hd
  have n3 : q ≠ r := by rintro rfl; rw [zaa] at hq; cases hq
  have n4 : d ≠ r := by rintro rfl; rw [zaa] at hd; cases hd
  rw [zac n3] at hq
  rw [zac n4] at hd
  rw [updG_swap2 n1 n2]
  refine zai (by rw [zac (Ne.symm np),zac (Ne.symm n4),zac (Ne.symm n3)]; exact zaa) aT.pile rfl ?_
  have eG : updG (updG (updG (updG (updG G r (GO.ins Z.R (putG "many" (T.int m) []))) q (GO.lst [])) d (GO.dK [])) p (GO.ins Z.P (fP (T.ref q) (T.ref d)))) r (GO.ins Z.R (putG "pile" (T.ref p) (putG "many" (T.int m) []))) =
    updG (updG (updG (updG G r (GO.ins Z.R (putG "pile" (T.ref p) (putG "many" (T.int m) [])))) q (GO.lst [])) d (GO.dK [])) p (GO.ins Z.P (fP (T.ref q) (T.ref d))) := by
   funext b
   simp only [updG_app]
   by_cases e1 : b = r
   ·subst e1; simp [Ne.symm np,Ne.symm n3,Ne.symm n4]
   ·simp [e1]
  rw [eG]
  obtain ⟨A0,ep,B0⟩ := Bk.pile (Z := Z) (W := W) (m := m) (G0 := updG G r (GO.ins Z.R (putG "pile" (T.ref p) (putG "many" (T.int m) [])))) (p := p) (q := q) (d := d) (by rw [zac np]; exact hp) (by rw [zac n3]; exact hq) (by rw [zac n4]; exact hd) n1 n2 hqd
  simp only [wSeq,zbn,wComp,iEnum,za3,wVar,wNil,List.getElem?_cons_succ,List.getElem?_cons_zero]
  refine ⟨by simp [zbR]; omega,?_⟩
  refine askers_loop W.length 0 A0 _ (by omega) B0 fun A1 G1 a1 B1 => ?_
  intro la hla
  have r1 : G1 r = some (GO.ins Z.R (putG "pile" (T.ref p) (putG "many" (T.int m) []))) := B1.old r _ zaa
  have nl : la ≠ r := by rintro rfl; rw [r1] at hla; cases hla
  refine zai (by rw [zac (Ne.symm nl)]; exact r1) aT.askers rfl ?_
  have B2 := (B1.la hla).rebase (u := GO.ins Z.R (putG "askers" (T.ref la) (putG "pile" (T.ref p) (putG "many" (T.int m) [])))) zaa
  simp only [zbn,wComp,iR1,za3,wVar,wNil,List.getElem?_cons_succ,List.getElem?_cons_zero]
  refine ⟨⟨by omega,by omega⟩,by simp [rngT]; omega,?_⟩
  refine voters_loop m 0 _ _ (by omega) B2 fun A3 G3 a3 B3 => ?_
  intro lv hlv
  have r3 : G3 r = some (GO.ins Z.R (putG "askers" (T.ref la) (putG "pile" (T.ref p) (putG "many" (T.int m) [])))) := B3.old r _ zaa
  have nv : lv ≠ r := by rintro rfl; rw [r3] at hlv; cases hlv
  refine zai (by rw [zac (Ne.symm nv)]; exact r3) aT.voters rfl ?_
  obtain ⟨R,F⟩ := B3.room hlv (r := r) zaa
  have e1 : A3 .p = p := (a3 .p (.inl trivial)).trans ((by simp [updA] : M.upd A1 .la la .p = A1 .p).trans ((a1 .p trivial).trans ep))
  have e2 : A3 .la = la := (a3 .la (.inr rfl)).trans (by simp [updA])
  rw [e1,e2] at R F
  refine h _ _ (by simp [updA]) R fun a o ha e => ?_
  exact F a o ha (by rw [zac ha,zac ha]; exact e)
def zb4 (Z : Cz) : Sp3 := fun ts G Q => match ts with
 | [.int b,.int v,t] => Q (.tup [.str "promise",.int b,.int v,t]) G
 | _ => False
abbrev zb8 : Stmt := top 12
theorem sc_promise : FnScope ["ballot","voter","last"] ["ballot","voter","last"] (zab zb8) := ⟨rfl,rfl,rfl,by decide +kernel,rfl,by decide +kernel,by decide +kernel⟩
theorem ok_promise {f : Addr} {fd : FuncData} (F : Fun K "promise" "promise" zb8 f fd) (aT : At K Z) (g_PROMISE : ∃ t,mg "PROMISE" = some (.str "promise" t)) : FOk Pg w K mg base 1 f fd ["ballot","voter","last"] (zb4 Z) := by
 refine ok3 F sc_promise (fun ts G Q h => ?_) (fun cdv A outer s H E hr => ?_)
 ·unfold zb4 at h; split at h <;> first | rfl | exact h.elim
 ·refine ⟨_,(zaL (zbZ (qtup (qa (qgs1 g_PROMISE) (qa (qv 0) (qa (qv 1) (qa (qv 2) qa0))))))),fun ts G Q h => ?_⟩
  unfold zb4 at h
  split at h
  case h_2 => exact h.elim
  simp! []
  exact h
def sp_ask (Z : Cz) : Sp3 := fun ts G Q => match ts with
 | [.int b,.int w] => Q (zbV (.ask b w)) G
 | _ => False
abbrev s_ask : Stmt := top 13
theorem sc_ask : FnScope ["ballot","wish"] ["ballot","wish"] (zab s_ask) := ⟨rfl,rfl,rfl,by decide +kernel,rfl,by decide +kernel,by decide +kernel⟩
theorem ok_ask {f : Addr} {fd : FuncData} (F : Fun K "ask" "ask" s_ask f fd) (aT : At K Z) (g_ASK : ∃ t,mg "ASK" = some (.str "ask" t)) : FOk Pg w K mg base 1 f fd ["ballot","wish"] (sp_ask Z) := by
 refine ok3 F sc_ask (fun ts G Q h => ?_) (fun cdv A outer s H E hr => ?_)
 ·unfold sp_ask at h; split at h <;> first | rfl | exact h.elim
 ·refine ⟨_,(zaL (zbZ (qtup (qa (qgs1 g_ASK) (qa (qv 0) (qa (qv 1) qa0)))))),fun ts G Q h => ?_⟩
  unfold sp_ask at h
  split at h
  case h_2 => exact h.elim
  simp! []
  exact h
def sp_vote (Z : Cz) : Sp3 := fun ts G Q => match ts with
 | [.int b,.int v,.int w] => Q (.tup [.str "vote",.int b,.int v,.int w]) G
 | _ => False
abbrev s_vote : Stmt := top 14
theorem sc_vote : FnScope ["ballot","voter","wish"] ["ballot","voter","wish"] (zab s_vote) := ⟨rfl,rfl,rfl,by decide +kernel,rfl,by decide +kernel,by decide +kernel⟩
theorem ok_vote {f : Addr} {fd : FuncData} (F : Fun K "vote" "vote" s_vote f fd) (aT : At K Z) (g_VOTE : ∃ t,mg "VOTE" = some (.str "vote" t)) : FOk Pg w K mg base 1 f fd ["ballot","voter","wish"] (sp_vote Z) := by
 refine ok3 F sc_vote (fun ts G Q h => ?_) (fun cdv A outer s H E hr => ?_)
 ·unfold sp_vote at h; split at h <;> first | rfl | exact h.elim
 ·refine ⟨_,(zaL (zbZ (qtup (qa (qgs1 g_VOTE) (qa (qv 0) (qa (qv 1) (qa (qv 2) qa0))))))),fun ts G Q h => ?_⟩
  unfold sp_vote at h
  split at h
  case h_2 => exact h.elim
  simp! []
  exact h
def sp_owner (Z : Cz) : Sp3 := fun ts G Q => match ts with
 | [.int b,.int n] => 0 < n /\ Q (.int (b % n)) G
 | _ => False
abbrev s_owner : Stmt := top 21
theorem sc_owner : FnScope ["ballot","askers"] ["ballot","askers"] (zab s_owner) := ⟨rfl,rfl,rfl,by decide +kernel,rfl,by decide +kernel,by decide +kernel⟩
theorem ok_owner {f : Addr} {fd : FuncData} (F : Fun K "owner" "owner" s_owner f fd) (aT : At K Z)  : FOk Pg w K mg base 1 f fd ["ballot","askers"] (sp_owner Z) := by
 refine ok3 F sc_owner (fun ts G Q h => ?_) (fun cdv A outer s H E hr => ?_)
 ·unfold sp_owner at h; split at h <;> first | rfl | exact h.elim
 ·refine ⟨_,(zaL (zbZ (qmod (qv 0) (qv 1)))),fun ts G Q h => ?_⟩
  unfold sp_owner at h
  split at h
  case h_2 => exact h.elim
  simp! []
  exact ⟨h.1,h.2⟩
def zbp (Z : Cz) : Sp3 := fun ts G Q => ∃ p pr wr L t,∃ k : Nat,ts = [.ref p,.int k] /\ G p = some (.ins Z.P (fP (.ref pr) wr)) /\ G pr = some (.lst L) /\ L[k]? = some t /\ Q t G
abbrev zaB : Stmt := zas (top 15) 3
theorem sc_Pile_letter_at : FnScope ["self","k"] ["self","k"] (zab zaB) := ⟨rfl,rfl,rfl,by decide +kernel,rfl,by decide +kernel,by decide +kernel⟩
theorem ok_Pile_letter_at {f : Addr} {fd : FuncData} (F : Fun K "letter_at" "Pile.letter_at" zaB f fd) (aT : At K Z) (b_len : mg "len" = none) : FOk Pg w K mg base 1 f fd ["self","k"] (zbp Z) := by
 refine ok3 F sc_Pile_letter_at (fun ts G Q h => ?_) (fun cdv A outer s H E hr => ?_)
 ·obtain ⟨p,pr,wr,L,t,k,rfl,_⟩ := h; rfl
 ·refine ⟨_,(qss (qifs (PW.pt (qwor (qtlt (qv 1) zaD) (qw1o (qtge (qv 1) (qlenA b_len (qa (zb2 (qv 0)) qa0)))))) (zaL qnever) zaw)
   (zaL (zbZ (zce hr (zb2 (qv 0)) (qv 1))))),fun ts G Q h => ?_⟩
  obtain ⟨p,pr,wr,L,t,k,rfl,hp,h1,ht,h⟩ := h
  obtain ⟨hi,hi2⟩ := List.getElem?_eq_some_iff.mp ht
  have e1 : ¬ ((k : Int) < 0) := by omega
  have e2 : ¬ ((L.length : Int) <= (k : Int)) := by omega
  simp! [e1]
  refine zad hp fP_row aT.row ?_
  simp [h1,e2]
  refine ⟨hi,zad hp fP_row aT.row ?_⟩
  simp [h1]
  have e1 : atI L (k : Int) = some t := zb1 ht
  simpa [e1] using h
def zaQ (Z : Cz) : Sp3 := fun ts G Q => ∃ (a : Addr) (v : Nat) (V : M.Voter) (b w : Int),ts = [.ref a,.int b] /\ G a = some (.ins Z.V (fV (.int v) (oI V.promised) (oP V.voted))) /\
 match hearV (.prepare b) v V with
 | some (y,V') => Q (zbV y) (updG G a (.ins Z.V (fV (.int v) (oI V'.promised) (oP V'.voted))))
 | none => Q .non G
abbrev zap : Stmt := zas (top 25) 4
theorem sc_Voter_hear_prepare : FnScope ["self","ballot"] ["self","ballot"] (zab zap) := ⟨rfl,rfl,rfl,by decide +kernel,rfl,by decide +kernel,by decide +kernel⟩
theorem ok_Voter_hear_prepare {f : Addr} {fd : FuncData} (F : Fun K "hear_prepare" "Voter.hear_prepare" zap f fd) (aT : At K Z) (F_promise : zbS Pg w K mg base 1 "promise" ["ballot","voter","last"] (zb4 Z)) : FOk Pg w K mg base 2 f fd ["self","ballot"] (zaQ Z) := by
 refine ok3 F sc_Voter_hear_prepare (fun ts G Q h => ?_) (fun cdv A outer s H E hr => ?_)
 ·obtain ⟨a,v,V,b,w,rfl,_⟩ := h; rfl
 ·refine ⟨_,(qss (qifs (PW.pt (qwand (qtnotN (zb2 (qv 0)) qnon) (qw1a (qtge (zb2 (qv 0)) (qv 1))))) (zaL (zbZ qnon)) zaw)
   (qss (zar (qv 0) (qv 1))
   (zaL (zbZ (zaP F_promise hr (qa (qv 1) (qa (zb2 (qv 0)) (qa (zb2 (qv 0)) qa0)))))))),fun ts G Q h => ?_⟩
  obtain ⟨a,v,⟨pr,vo⟩,b,w,rfl,ha,h⟩ := h
  simp! []
  refine zad ha fV_bound aT.bound ?_
  cases pr with
  | none =>
   simp [hearV,M.lt?,M.le?] at h
   simp [oI,isN]
   refine zai ha aT.bound rfl ?_
   simp! []
   refine zad zaa fV_number aT.vnumber ?_
   refine zad zaa fV_last aT.last ?_
   exact h
  | some p =>
   simp [oI,isN]
   refine zad ha fV_bound aT.bound ?_
   simp only [hearV,M.lt?,M.le?] at h
   by_cases c : b <= p
   ·have c' : ¬ p < b := by omega
    simp [c'] at h
    simp! [oI,c]
    exact h
   ·have c' : p < b := by omega
    simp [c'] at h
    simp! [oI,c]
    refine zai ha aT.bound rfl ?_
    simp! []
    refine zad zaa fV_number aT.vnumber ?_
    refine zad zaa fV_last aT.last ?_
    exact h
def zbo (Z : Cz) : Sp3 := fun ts G Q => ∃ (a : Addr) (v : Nat) (V : M.Voter) (b w : Int),ts = [.ref a,.int b,.int w] /\ G a = some (.ins Z.V (fV (.int v) (oI V.promised) (oP V.voted))) /\
 match hearV (.ask b w) v V with
 | some (y,V') => Q (zbV y) (updG G a (.ins Z.V (fV (.int v) (oI V'.promised) (oP V'.voted))))
 | none => Q .non G
abbrev zay : Stmt := zas (top 25) 5
theorem sc_Voter_hear_ask : FnScope ["self","ballot","wish"] ["self","ballot","wish"] (zab zay) := ⟨rfl,rfl,rfl,by decide +kernel,rfl,by decide +kernel,by decide +kernel⟩
theorem ok_Voter_hear_ask {f : Addr} {fd : FuncData} (F : Fun K "hear_ask" "Voter.hear_ask" zay f fd) (aT : At K Z) (F_vote : zbS Pg w K mg base 1 "vote" ["ballot","voter","wish"] (sp_vote Z)) : FOk Pg w K mg base 2 f fd ["self","ballot","wish"] (zbo Z) := by
 refine ok3 F sc_Voter_hear_ask (fun ts G Q h => ?_) (fun cdv A outer s H E hr => ?_)
 ·obtain ⟨a,v,V,b,w,rfl,_⟩ := h; rfl
 ·refine ⟨_,(qss (qifs (PW.pt (qwand (qtnotN (zb2 (qv 0)) qnon) (qw1a (qtgt (zb2 (qv 0)) (qv 1))))) (zaL (zbZ qnon)) zaw)
   (qss (zar (qv 0) (qv 1))
   (qss (zar (qv 0) (qtup (qa (qv 1) (qa (qv 2) qa0))))
   (zaL (zbZ (zaP F_vote hr (qa (qv 1) (qa (zb2 (qv 0)) (qa (qv 2) qa0))))))))),fun ts G Q h => ?_⟩
  obtain ⟨a,v,⟨pr,vo⟩,b,w,rfl,ha,h⟩ := h
  simp! []
  refine zad ha fV_bound aT.bound ?_
  cases pr with
  | none =>
   simp [hearV,M.lt?,M.le?] at h
   simp [oI,isN]
   refine zai ha aT.bound rfl ?_
   simp! []
   refine zai zaa aT.last rfl ?_
   rw [zbu]
   simp! []
   refine zad zaa fV_number aT.vnumber ?_
   exact h
  | some p =>
   simp [oI,isN]
   refine zad ha fV_bound aT.bound ?_
   simp only [hearV,M.lt?,M.le?] at h
   by_cases c : b < p
   ·have c' : ¬ p <= b := by omega
    simp [c'] at h
    simp! [oI,c]
    exact h
   ·have c' : p <= b := by omega
    simp [c'] at h
    simp! [oI,c]
    refine zai ha aT.bound rfl ?_
    simp! []
    refine zai zaa aT.last rfl ?_
    rw [zbu]
    simp! []
    refine zad zaa fV_number aT.vnumber ?_
    exact h
def zcg (Z : Cz) : Sp3 := fun ts G Q => ∃ (a : Addr) (v : Nat) (V : M.Voter) (x : M.Let),ts = [.ref a,zbV x] /\ G a = some (.ins Z.V (fV (.int v) (oI V.promised) (oP V.voted))) /\
 match hearV x v V with
 | some (y,V') => Q (zbV y) (updG G a (.ins Z.V (fV (.int v) (oI V'.promised) (oP V'.voted))))
 | none => Q .non G
abbrev za9 : Stmt := zas (top 25) 3
theorem sc_Voter_hear : FnScope ["self","letter"] ["self","letter"] (zab za9) := ⟨rfl,rfl,rfl,by decide +kernel,rfl,by decide +kernel,by decide +kernel⟩
theorem ok_Voter_hear {f : Addr} {fd : FuncData} (F : Fun K "hear" "Voter.hear" za9 f fd) (aT : At K Z) (g_ASK : ∃ t,mg "ASK" = some (.str "ask" t)) (g_PREPARE : ∃ t,mg "PREPARE" = some (.str "prepare" t)) (M_Voter_hear_ask : zbD Pg w K mg base 2 Z.V "hear_ask" ["self","ballot","wish"] (zbo Z)) (M_Voter_hear_prepare : zbD Pg w K mg base 2 Z.V "hear_prepare" ["self","ballot"] (zaQ Z)) : FOk Pg w K mg base 3 f fd ["self","letter"] (zcg Z) := by
 refine ok3 F sc_Voter_hear (fun ts G Q h => ?_) (fun cdv A outer s H E hr => ?_)
 ·obtain ⟨a,v,V,x,rfl,_⟩ := h; rfl
 ·refine ⟨_,(qss (qifs (qteq hr (zce hr (qv 1) zaD) (qgs1 g_PREPARE)) (zaL (zbZ (cmeth (qv 0) M_Voter_hear_prepare hr (qa (zce hr (qv 1) zaD) qa0)))) zaw)
   (qss (qifs (qteq hr (zce hr (qv 1) zaD) (qgs1 g_ASK)) (zaL (zbZ (cmeth (qv 0) M_Voter_hear_ask hr (qa (zce hr (qv 1) zaD) (qa (zce hr (qv 1) zaD) qa0))))) zaw)
   (zaL (zbZ qnon)))),fun ts G Q h => ?_⟩
  obtain ⟨a,v,V,x,rfl,ha,h⟩ := h
  cases x with
  | prepare b =>
   simp! [zbV,wD,toD,ok1,ok2,ok3',ok4,at0,at1,at2]
   refine zaj ha rfl ?_
   exact ⟨a,v,V,b,0,rfl,ha,h⟩
  | ask b w =>
   simp! [zbV,wD,toD,ok1,ok2,ok3',ok4,at0,at1,at2]
   refine zaj ha rfl ?_
   exact ⟨a,v,V,b,w,rfl,ha,h⟩
  | promise b u l =>
   simp! [zbV,wD,toD,ok1,ok2,ok3',ok4,at0,at1,at2]
   exact h
  | vote b u w =>
   simp! [zbV,wD,toD,ok1,ok2,ok3',ok4,at0,at1,at2]
   exact h
def za1 (Z : Cz) : Sp3 := fun ts G Q => ∃ a nu st w ma ba fr nt ak l,ts = [.ref a] /\ G a = some (.ins Z.A (fA nu st (.int w) ma ba fr (.ref nt) ak)) /\ G nt = some (notO l) /\ l.length <= 1000 /\ ∀ G',Ext G G' -> Q (.int (P.wishToAsk w l)) G'
abbrev zam : Stmt := zas (top 23) 5
theorem zbE : FnScope ["self","lasts"] ["self"] (zab zam) := ⟨rfl,rfl,rfl,by decide +kernel,rfl,by decide +kernel,by decide +kernel⟩
theorem ok_Asker_wish_to_ask {f : Addr} {fd : FuncData} (F : Fun K "wish_to_ask" "Asker.wish_to_ask" zam f fd) (aT : At K Z) (b_len : mg "len" = none) (b_max : mg "max" = none) : FOk Pg w K mg base 1 f fd ["self"] (za1 Z) := by
 refine ok3 F zbE (fun ts G Q h => ?_) (fun cdv A outer s H E hr => ?_)
 ·obtain ⟨a,nu,st,w,ma,ba,fr,nt,ak,l,rfl,_⟩ := h; rfl
 ·refine ⟨_,(qss (qthaw (qsetcomp 1 ["last"] [none] zbE.nd (blkOk (oN := ["self","lasts"]) (osc := zab zam) rfl rfl (by decide +kernel)) (qi_vals (zb2 (qv 0))) (fun _ _ _ _ => (zbz 0 (show List.Nodup (["last"] : List Str) by decide +kernel))) (fun _ _ _ _ => (qifs1 (qtnotN (qv 0) qnon))) (fun _ _ _ _ => (qv 0))))
   (qss (qifs (qteq hr (qlenA b_len (qa (qv 1) qa0)) zaD) (zaL (zbZ (zb2 (qv 0)))) zaw)
   (zaL (zbZ (zce hr (qmaxL hr b_max (qa (qv 1) qa0)) zaD))))),fun ts G Q h => ?_⟩
  obtain ⟨a,nu,st,w,ma,ba,fr,nt,ak,l,rfl,ha,h1,hl,h⟩ := h
  simp! []
  refine .inl ⟨nt,_,h1,?_⟩
  simp! [wComp,iVals]
  refine zad ha fA_noted aT.noted ?_
  simp [h1,notO]
  intro ob
  refine ⟨by omega,?_⟩
  have et : List.map ((fun x : Key × T => x.snd) ∘ fun p : Nat × Option (Int × Int) => (Sum.inl (p.fst : Int),oP p.snd)) l = l.map fun p => oP p.2 := rfl
  rw [et]
  refine compL_fm (fun t => !isN t) id zaa _ [] (fun x hx R k => k _ (fun R' r => by simpa [wSeq,wIfS,zcf,wRet,wRetN,wOp,wVar,wC,iI,iI0,start3,wCB,za3,wNil,lenA3,zbm,ix3,ixA,dGet,wNext,wSet,wCall,wTup,wLst,wTru,truT,wAnd,wOr,wNot,wAndV,wOrV,wNotV,wNotT,wIsN,wNotN,isN,wFld,zbn,wMeth,wMeth0,wMake,wDrop,wAsg,hName,hSub,wDNew,tupI,itemsT,iR1,iR2,wTrue,wIsi,isInt,isBool,zbN,mx3,mn3,wSlice,wP0,wP1,zbT,wApp,app3,onLst,vis3,iSeq,wNever,hTup,hCons,hNil,wGet1,wGet2,get3,onDct] using r) fun _ R' r => by simpa [wSeq,wIfS,zcf,wRet,wRetN,wOp,wVar,wC,iI,iI0,start3,wCB,za3,wNil,lenA3,zbm,ix3,ixA,dGet,wNext,wSet,wCall,wTup,wLst,wTru,truT,wAnd,wOr,wNot,wAndV,wOrV,wNotV,wNotT,wIsN,wNotN,isN,wFld,zbn,wMeth,wMeth0,wMake,wDrop,wAsg,hName,hSub,wDNew,tupI,itemsT,iR1,iR2,wTrue,wIsi,isInt,isBool,zbN,mx3,mn3,wSlice,wP0,wP1,zbT,wApp,app3,onLst,vis3,iSeq,wNever,hTup,hCons,hNil,wGet1,wGet2,get3,onDct] using r) ?_
  rw [List.nil_append,lasts_T,List.map_id]
  intro d hd
  have nd : d ≠ nt := by rintro rfl; rw [zaa] at hd; cases hd
  rw [zac nd] at hd
  refine ⟨ob,by rw [zac (Ne.symm nd)]; exact zaa,?_⟩
  have x1 : Ext G (updG (updG (updG G nt (.dF ob (l.map fun p => (Sum.inl (p.1 : Int),oP p.2)))) d (.lst ((P.lasts l).map pT))) nt (notO l)) := fun b o e => by
   by_cases eb : b = nt
   ·subst eb; rw [zaa,<- h1,e]
   ·rw [zac eb,zac (neG e hd),zac eb]; exact e
  have hx := h _ x1
  have xa := x1 _ _ ha
  have gd : updG (updG (updG G nt (.dF ob (l.map fun p => (Sum.inl (p.1 : Int),oP p.2)))) d (.lst ((P.lasts l).map pT))) nt (notO l) d = some (.lst ((P.lasts l).map pT)) := by rw [zac nd]; exact zaa
  show wSeq _ _ _ _ (updG _ nt (notO l))
  generalize updG (updG (updG G nt (.dF ob (l.map fun p => (Sum.inl (p.1 : Int),oP p.2)))) d (.lst ((P.lasts l).map pT))) nt (notO l) = G3 at *
  simp! [gd,wD,toD,eqvI]
  cases el : P.lasts l with
  | nil =>
   rw [wish_nil el] at hx
   simp
   exact zad xa fA_wish aT.wish hx
  | cons q r =>
   rw [wish_cons el] at hx
   have n0 : ¬ ((r.length : Int) + 1 = 0) := by omega
   simp [n0,mxL3,gd,el]
   refine ⟨q.1,q.2,r,⟨rfl,rfl⟩,?_⟩
   simpa [wSeq,wIfS,zcf,wRet,wRetN,wOp,wVar,wC,iI,iI0,start3,wCB,za3,wNil,lenA3,zbm,ix3,ixA,dGet,wNext,wSet,wCall,wTup,wLst,wTru,truT,wAnd,wOr,wNot,wAndV,wOrV,wNotV,wNotT,wIsN,wNotN,isN,wFld,zbn,wMeth,wMeth0,wMake,wDrop,wAsg,hName,hSub,wDNew,tupI,itemsT,iR1,iR2,wTrue,wIsi,isInt,isBool,zbN,mx3,mn3,wSlice,wP0,wP1,zbT,wApp,app3,onLst,vis3,iSeq,wNever,hTup,hCons,hNil,wGet1,wGet2,get3,onDct,pT,at1] using hx
def zcj (Z : Cz) : Sp3 := fun ts G Q => ∃ (a nt ak : Addr) (i n w fr : T) (wi : Int) (m : Nat) (bal : Option Int) (noted : List (Nat × Option (Int × Int))) (asked : List (Int × List Nat)) (b : Int) (v : Nat) (l : Option (Int × Int)),ts = [.ref a,zbV (.promise b v l)] /\
 G a = some (.ins Z.A (fA i n (.int wi) (.int m) (oI bal) fr (.ref nt) (.ref ak))) /\ G nt = some (notO noted) /\ G ak = some (akO asked) /\ nt ≠ ak /\ (bal = some b -> noted.length < 60) /\ asked.length <= 1000000 /\
 if bal = some b /\ P.getL asked b = none then
  (if m < 2 * (P.putL noted v l).length then ∀ G',Ext (updG (updG G nt (notO (P.putL noted v l))) ak (akO (P.putL asked b (P.sortN ((P.putL noted v l).map (·.1)))))) G' -> Q (zbV (.ask b (P.wishToAsk wi (P.putL noted v l)))) G'
  else Q .non (updG G nt (notO (P.putL noted v l))))
 else Q .non G
abbrev zbd : Stmt := zas (top 23) 4
theorem sc_Asker_hear : FnScope ["self","letter"] ["self","letter"] (zab zbd) := ⟨rfl,rfl,rfl,by decide +kernel,rfl,by decide +kernel,by decide +kernel⟩
theorem ok_Asker_hear {f : Addr} {fd : FuncData} (F : Fun K "hear" "Asker.hear" zbd f fd) (aT : At K Z) (b_len : mg "len" = none) (b_sorted : mg "sorted" = none) (b_tuple : mg "tuple" = none) (F_ask : zbS Pg w K mg base 1 "ask" ["ballot","wish"] (sp_ask Z)) (F_more_than_half : zbS Pg w K mg base 1 "more_than_half" ["some","many"] (zan Z)) (M_Asker_wish_to_ask : zbD Pg w K mg base 1 Z.A "wish_to_ask" ["self"] (za1 Z)) : FOk Pg w K mg base 2 f fd ["self","letter"] (zcj Z) := by
 refine ok3 F sc_Asker_hear (fun ts G Q h => ?_) (fun cdv A outer s H E hr => ?_)
 ·obtain ⟨a,nt,ak,i,n,w,fr,wi,m,bal,noted,asked,b,v,l,rfl,_⟩ := h; rfl
 ·refine ⟨_,(qss (qifs (PW.pt (qwor (qtne hr (zce hr (qv 1) zaD) (zb2 (qv 0))) (qw1o (qtin hr (zce hr (qv 1) zaD) (zb2 (qv 0)))))) (zaL (zbZ qnon)) zaw)
   (qss (qsetix hr (zce hr (qv 1) zaD) (zb2 (qv 0)) (zce hr (qv 1) zaD))
   (qss (qifs (qtnot (qtru (zaP F_more_than_half hr (qa (qlenA b_len (qa (zb2 (qv 0)) qa0)) (qa (zb2 (qv 0)) qa0))))) (zaL (zbZ qnon)) zaw)
   (qss (qsetix hr (qtupleI b_tuple (qa (qsorted b_sorted (qa (zb2 (qv 0)) qa0)) qa0)) (zb2 (qv 0)) (zb2 (qv 0)))
   (zaL (zbZ (zaP F_ask hr (qa (zb2 (qv 0)) (qa (cmeth0 (qv 0) M_Asker_wish_to_ask hr) qa0))))))))),fun ts G Q h => ?_⟩
  obtain ⟨a,nt,ak,i,n,w',fr,wi,m,bal,noted,asked,b,v,l,rfl,ha,h1,h2,hne,hl,hk,h⟩ := h
  have na : a ≠ nt := neG2 ha h1 (by simp [notO])
  have nk : a ≠ ak := neG2 ha h2 (by simp [akO])
  have ln := putL_len noted v l
  simp! [zbV,at1]
  refine zad ha zcb aT.ballot ?_
  simp only [wD,toD,toD_oI,eqv_oD]
  by_cases c1 : bal = some b
  ·simp [c1]
   refine zad ha fA_asked aT.asked ?_
   simp only [wInA,ak_in h2,ak_get h2]
   cases e2 : P.getL asked b with
   | some vs =>
    simp [c1,e2] at h
    simpa using h
   | none =>
    have hl' := hl c1
    simp only [c1,e2,and_self,if_true] at h
    simp only [Option.map_none,Option.isSome_none,id,Bool.false_eq_true,if_false,at2,at3]
    refine zad ha fA_noted aT.noted ?_
    refine not_set h1 (by omega) ?_
    generalize hN : P.putL noted v l = N at *
    have ha1 : updG G nt (notO N) a = some (.ins Z.A (fA i n (.int wi) (.int m) (oI bal) fr (.ref nt) (.ref ak))) := by rw [zac na]; exact ha
    have h21 : updG G nt (notO N) ak = some (akO asked) := by rw [zac (Ne.symm hne)]; exact h2
    have h11 : updG G nt (notO N) nt = some (notO N) := zaa
    generalize updG G nt (notO N) = G1 at *
    refine zad ha1 fA_noted aT.noted ?_
    simp only [h11,notO,List.length_map]
    refine zad ha1 fA_many aT.many ?_
    simp only [zan]
    by_cases c3 : m < 2 * N.length
    ·have c3' : (m : Int) < 2 * (N.length : Int) := by omega
     simp only [c3,if_true] at h
     simp only [c3',decide_true,if_true]
     refine zad ha1 fA_noted aT.noted ?_
     simp only [srt3,h11,notO,not_keys]
     refine ⟨by simp; omega,fun p hp => ?_⟩
     have np : p ≠ a := Ne.symm (neG ha1 hp)
     have np2 : p ≠ ak := Ne.symm (neG h21 hp)
     have np3 : p ≠ nt := Ne.symm (neG h11 hp)
     rw [sortI_N]
     have ha2 : ∀ u,updG G1 p u a = some (.ins Z.A (fA i n (.int wi) (.int m) (oI bal) fr (.ref nt) (.ref ak))) := fun u => by rw [zac (Ne.symm np)]; exact ha1
     simp only [zaa]
     refine zad (ha2 _) fA_asked aT.asked ?_
     refine zad (ha2 _) zcb aT.ballot ?_
     have ev : T.tup (((P.sortN (N.map (·.1))).map fun (v : Nat) => (v : Int)).map T.int) = vsT (P.sortN (N.map (·.1))) := by rw [List.map_map]; rfl
     rw [ev,c1]
     refine ak_set (by rw [zac (Ne.symm np2)]; exact h21) hk ?_
     have ha3 : ∀ u t,updG (updG G1 p u) ak t a = some (.ins Z.A (fA i n (.int wi) (.int m) (oI bal) fr (.ref nt) (.ref ak))) := fun u t => by rw [zac nk]; exact ha2 u
     have h13 : ∀ u t,updG (updG G1 p u) ak t nt = some (notO N) := fun u t => by rw [zac hne,zac (Ne.symm np3)]; exact h11
     refine zad (ha3 _ _) zcb aT.ballot ?_
     refine zaj (ha3 _ _) rfl ?_
     refine ⟨_,_,_,_,_,_,_,_,_,_,rfl,ha3 _ _,h13 _ _,by omega,fun G' x => ?_⟩
     rw [c1]
     show Q (zbV (.ask b (P.wishToAsk wi N))) G'
     refine h G' fun c o ec => x c o ?_
     by_cases e3 : c = ak
     ·subst e3; rw [zaa] at ec ⊢; exact ec
     ·rw [zac e3] at ec ⊢
      rw [zac (neG ec hp)]; exact ec
    ·have c3' : ¬ (m : Int) < 2 * (N.length : Int) := by omega
     simp only [c3,if_false] at h
     simp [c3']
     exact h
  ·have c2 : ¬ (bal = some b /\ P.getL asked b = none) := fun z => c1 z.1
   rw [if_neg c2] at h
   simp [c1]
   exact h
theorem come_tail {G1 : Gp} {A : Adr} {S1 : P.R} {y : M.Let} {Q : VK3} (aT : At K Z) (R1 : RoomAt Z G1 A S1) (hl : S1.letters.length <= 1000000) (h : ∀ G',RoomAt Z G' A (S1.write y) -> Fr G1 A S1 G' A (S1.write y) -> Q .non G') :
  if isN (zbV y) = true then Q .non G1 else fldAt K (.ref (A .r)) G1 "pile" fun x G1 => onIns x Z.P "write" G1 (zbh Z [x,zbV y] G1 fun x G1 => Q .non G1) := by
 have e : isN (zbV y) = false := by cases y <;> rfl
 rw [e,if_neg Bool.false_ne_true]
 refine zad (R1.at' .r trivial) fR_pile aT.pile ?_
 refine zaj (R1.at' .p trivial) rfl ?_
 refine ⟨_,_,_,_,_,rfl,R1.at' .p trivial,R1.at' .pr trivial,R1.at' .pw trivial,R1.ne (s := .pr) (t := .pw) trivial trivial (by simp),hl,?_⟩
 obtain ⟨R2,F2⟩ := R1.wrote y rfl
 exact h _ R2 F2
theorem own_eq {n : Nat} (h : 0 < n) (b : Int) : b % (n : Int) = (M.own n b : Int) := by
 unfold M.own
 have := Int.emod_nonneg b (b := (n : Int)) (by omega)
 omega
def sp_Room_come (Z : Cz) : Sp3 := fun ts G Q => ∃ (A : Adr) (S : P.R) (x : M.Let) (t : T) (v : Nat),ts = [.ref (A .r),zbV x,t] /\ RoomAt Z G A S /\ Fit S /\ (forV x -> v < S.many /\ t = .ref (A (.vs v))) /\
 ∀ G',RoomAt Z G' A (S.hear x v) -> Fr G A S G' A (S.hear x v) -> Q .non G'
abbrev zbt : Stmt := zas (top 27) 14
theorem zbU : FnScope ["self","letter","voter","answer"] ["self","letter","voter"] (zab zbt) := ⟨rfl,rfl,rfl,by decide +kernel,rfl,by decide +kernel,by decide +kernel⟩
theorem ok_Room_come {f : Addr} {fd : FuncData} (F : Fun K "come" "Room.come" zbt f fd) (aT : At K Z) (b_len : mg "len" = none) (g_PROMISE : ∃ t,mg "PROMISE" = some (.str "promise" t)) (g_VOTE : ∃ t,mg "VOTE" = some (.str "vote" t)) (F_owner : zbS Pg w K mg base 1 "owner" ["ballot","askers"] (sp_owner Z)) (M_Asker_hear : zbD Pg w K mg base 2 Z.A "hear" ["self","letter"] (zcj Z)) (M_Pile_write : zbD Pg w K mg base 1 Z.P "write" ["self","letter"] (zbh Z)) (M_Voter_hear : zbD Pg w K mg base 3 Z.V "hear" ["self","letter"] (zcg Z)) : FOk Pg w K mg base 4 f fd ["self","letter","voter"] (sp_Room_come Z) := by
 refine ok3 F zbU (fun ts G Q h => ?_) (fun cdv A outer s H E hr => ?_)
 ·obtain ⟨A,S,x,t,v,rfl,_⟩ := h; rfl
 ·refine ⟨_,(qss (qset 3 zbU.nd qnon)
   (qss (qifs (qteq hr (zce hr (qv 1) zaD) (qgs1 g_PROMISE)) (zaL (qset 3 zbU.nd (cmeth (zce hr (zb2 (qv 0)) (zaP (F_owner.mono (by decide : 1 <= 3)) hr (qa (zce hr (qv 1) zaD) (qa (qlenA b_len (qa (zb2 (qv 0)) qa0)) qa0)))) (M_Asker_hear.mono (by decide : 2 <= 3)) hr (qa (qv 1) qa0)))) (zaL (qifs (qtne hr (zce hr (qv 1) zaD) (qgs1 g_VOTE)) (zaL (qset 3 zbU.nd (cmeth (qv 2) M_Voter_hear hr (qa (qv 1) qa0)))) zaw)))
   (zaL (qifs (qtnotN (qv 3) qnon) (zaL (qexpr (cmeth (zb2 (qv 0)) (M_Pile_write.mono (by decide : 1 <= 3)) hr (qa (qv 3) qa0)))) zaw)))),fun ts G Q h => ?_⟩
  obtain ⟨A,S,x,t,v,rfl,R,ft,hv,h⟩ := h
  cases x with
  | prepare b =>
   obtain ⟨hv',rfl⟩ := hv trivial
   simp_arith! []
   refine zak (i := 0) rfl ?_
   simp [wD,toD,eqvS,ok1,ok2,ok3',ok4,s12,s13,s14,s23,s24,s34,s12.symm,s13.symm,s14.symm,s23.symm,s24.symm,s34.symm]
   refine zak (i := 0) rfl ?_
   simp [wD,toD,eqvS,ok1,ok2,ok3',ok4,s12,s13,s14,s23,s24,s34,s12.symm,s13.symm,s14.symm,s23.symm,s24.symm,s34.symm]
   refine zaj (R.at' (.vs v) hv') rfl ?_
   refine ⟨_,v,S.voters v,.prepare b,rfl,R.at' (.vs v) hv',?_⟩
   rw [hear_forV (x := .prepare b) trivial] at h
   cases eh : hearV (.prepare b) v (S.voters v) with
   | none =>
    simp only [eh] at h
    simp
    exact h G R Fr.refl
   | some q =>
    obtain ⟨y,V'⟩ := q
    simp only [eh] at h
    obtain ⟨R1,F1⟩ := R.setV hv' V'
    exact come_tail aT R1 ft.ln fun G' R2 F2 => h G' R2 (F1.trans F2)
  | ask b w =>
   obtain ⟨hv',rfl⟩ := hv trivial
   simp_arith! []
   refine zak (i := 0) rfl ?_
   simp [wD,toD,eqvS,ok1,ok2,ok3',ok4,s12,s13,s14,s23,s24,s34,s12.symm,s13.symm,s14.symm,s23.symm,s24.symm,s34.symm]
   refine zak (i := 0) rfl ?_
   simp [wD,toD,eqvS,ok1,ok2,ok3',ok4,s12,s13,s14,s23,s24,s34,s12.symm,s13.symm,s14.symm,s23.symm,s24.symm,s34.symm]
   refine zaj (R.at' (.vs v) hv') rfl ?_
   refine ⟨_,v,S.voters v,.ask b w,rfl,R.at' (.vs v) hv',?_⟩
   rw [hear_forV (x := .ask b w) trivial] at h
   cases eh : hearV (.ask b w) v (S.voters v) with
   | none =>
    simp only [eh] at h
    simp
    exact h G R Fr.refl
   | some q =>
    obtain ⟨y,V'⟩ := q
    simp only [eh] at h
    obtain ⟨R1,F1⟩ := R.setV hv' V'
    exact come_tail aT R1 ft.ln fun G' R2 F2 => h G' R2 (F1.trans F2)
  | promise b u l =>
   have ho := own_eq ft.n0 b
   have hlt := P.own_lt (b := b) ft.n0
   simp_arith! []
   refine zak (i := 0) rfl ?_
   simp [wD,toD,eqvS,ok1,ok2,ok3',ok4,s12,s13,s14,s23,s24,s34,s12.symm,s13.symm,s14.symm,s23.symm,s24.symm,s34.symm]
   refine zad (R.at' .r trivial) fR_askers aT.askers ?_
   refine zak (i := 1) rfl ?_
   refine zad (R.at' .r trivial) fR_askers aT.askers ?_
   simp [R.at' .la trivial,obj]
   refine ⟨by have := ft.n0; omega,?_⟩
   rw [ho]
   refine ixA_lst (R.at' .la trivial) (by simp [hlt]; rfl) ?_
   refine zaj (R.at' (.as _) hlt) rfl ?_
   refine ⟨_,_,_,_,_,.non,_,_,_,_,_,_,b,u,l,rfl,R.at' (.as _) hlt,R.at' (.nt _) hlt,R.at' (.ak _) hlt,R.ne (s := .nt _) (t := .ak _) hlt hlt (by simp),fun z => ft.nt _ b z,ft.ak _,?_⟩
   simp only [P.R.hear,P.R.note] at h
   by_cases c1 : (S.askers (M.own S.wishes.length b)).ballot = some b /\ P.getL (S.askers (M.own S.wishes.length b)).asked b = none
   ·rw [if_pos c1] at h ⊢
    obtain ⟨R1,F1⟩ := R.noted hlt (P.putL (S.askers (M.own S.wishes.length b)).noted u l)
    by_cases c2 : S.many < 2 * (P.putL (S.askers (M.own S.wishes.length b)).noted u l).length
    ·rw [if_pos c2] at h ⊢
     obtain ⟨R2,F2⟩ := R1.asked hlt (P.putL (S.askers (M.own S.wishes.length b)).asked b (P.sortN ((P.putL (S.askers (M.own S.wishes.length b)).noted u l).map (·.1))))
     rw [setA_at,setA_setA] at R2 F2
     intro G3 x3
     have R3 := R2.ext x3
     exact come_tail aT R3 ft.ln fun G' R4 F4 => h G' R4 ((F1.trans F2).trans ((Fr.ext x3).trans F4))
    ·rw [if_neg c2] at h ⊢
     simp
     exact h _ R1 F1
   ·rw [if_neg c1] at h ⊢
    simp
    exact h G R Fr.refl
  | vote b u w =>
   simp_arith! []
   refine zak (i := 0) rfl ?_
   simp [wD,toD,eqvS,ok1,ok2,ok3',ok4,s12,s13,s14,s23,s24,s34,s12.symm,s13.symm,s14.symm,s23.symm,s24.symm,s34.symm]
   refine zak (i := 0) rfl ?_
   simp [wD,toD,eqvS,ok1,ok2,ok3',ok4,s12,s13,s14,s23,s24,s34,s12.symm,s13.symm,s14.symm,s23.symm,s24.symm,s34.symm]
   exact h G R Fr.refl
def zch (Z : Cz) : Sp3 := fun ts G Q => ∃ (A : Adr) (S : P.R) (k v : Nat),ts = [.ref (A .r),.int k,.int v] /\ RoomAt Z G A S /\ Fit S /\ k < S.letters.length /\ v < S.many /\
 ∀ G',RoomAt Z G' A (S.bring k v) -> Fr G A S G' A (S.bring k v) -> Q .non G'
abbrev zba : Stmt := zas (top 27) 4
theorem sc_Room_bring : FnScope ["self","k","voter","letter"] ["self","k","voter"] (zab zba) := ⟨rfl,rfl,rfl,by decide +kernel,rfl,by decide +kernel,by decide +kernel⟩
theorem ok_Room_bring {f : Addr} {fd : FuncData} (F : Fun K "bring" "Room.bring" zba f fd) (aT : At K Z) (M_Pile_letter_at : zbD Pg w K mg base 1 Z.P "letter_at" ["self","k"] (zbp Z)) (M_Room_come : zbD Pg w K mg base 4 Z.R "come" ["self","letter","voter"] (sp_Room_come Z)) (M_Room_voter_at : zbD Pg w K mg base 1 Z.R "voter_at" ["self","voter"] (zbA Z)) : FOk Pg w K mg base 5 f fd ["self","k","voter"] (zch Z) := by
 refine ok3 F sc_Room_bring (fun ts G Q h => ?_) (fun cdv A outer s H E hr => ?_)
 ·obtain ⟨A,S,k,v,rfl,_⟩ := h; rfl
 ·refine ⟨_,(qss (qset 3 sc_Room_bring.nd (cmeth (zb2 (qv 0)) (M_Pile_letter_at.mono (by decide : 1 <= 4)) hr (qa (qv 1) qa0)))
   (zaL (qexpr (cmeth (qv 0) M_Room_come hr (qa (qv 3) (qa (cmeth (qv 0) (M_Room_voter_at.mono (by decide : 1 <= 4)) hr (qa (qv 2) qa0)) qa0)))))),fun ts G Q h => ?_⟩
  obtain ⟨A,S,k,v,rfl,R,ft,hk,hv,h⟩ := h
  have el : S.letters[k]? = some S.letters[k] := List.getElem?_eq_getElem hk
  have eb : S.bring k v = S.hear S.letters[k] v := by unfold P.R.bring; rw [el]
  rw [eb] at h
  simp! []
  refine zad (R.at' .r trivial) fR_pile aT.pile ?_
  refine zaj (R.at' .p trivial) rfl ?_
  refine ⟨_,_,_,_,zbV S.letters[k],k,rfl,R.at' .p trivial,R.at' .pr trivial,by rw [List.getElem?_map,el]; rfl,?_⟩
  refine zaj (R.at' .r trivial) rfl ?_
  refine zaj (R.at' .r trivial) rfl ?_
  refine ⟨_,_,_,_,_,_,.ref (A (.vs v)),v,rfl,R.at' .r trivial,R.at' .lv trivial,by simp [hv],?_⟩
  exact ⟨A,S,S.letters[k],_,v,rfl,R,ft,fun _ => ⟨hv,rfl⟩,h⟩
def zbK (Z : Cz) : Sp3 := fun ts G Q => ∃ (L : List M.Let) (m : Nat),ts = [.tup (L.map zbV),.int m] /\ L.length <= 100000 /\ (P.won L m).length < 64 /\ ∀ G',Ext G G' -> Q (.tup ((zbf (P.won L m)).map pT)) G'
abbrev zaE : Stmt := top 18
theorem zbj : FnScope ["letters","many","counts","letter","pair"] ["letters","many"] (zab zaE) := ⟨rfl,rfl,rfl,by decide +kernel,rfl,by decide +kernel,by decide +kernel⟩
theorem ok_chosen_pairs {f : Addr} {fd : FuncData} (F : Fun K "chosen_pairs" "chosen_pairs" zaE f fd) (aT : At K Z) (b_sorted : mg "sorted" = none) (b_tuple : mg "tuple" = none) (g_VOTE : ∃ t,mg "VOTE" = some (.str "vote" t)) (F_more_than_half : zbS Pg w K mg base 1 "more_than_half" ["some","many"] (zan Z)) : FOk Pg w K mg base 2 f fd ["letters","many"] (zbK Z) := by
 refine ok3 F zbj (fun ts G Q h => ?_) (fun cdv A outer s H E hr => ?_)
 ·obtain ⟨L,m,rfl,_⟩ := h; rfl
 ·refine ⟨_,(qss (qset 2 zbj.nd qdnew)
   (qss (qfor (qi_seq (qv 0)) (zbz 3 zbj.nd) (zaL (qifs (qteq hr (zce hr (qv 3) zaD) (qgs1 g_VOTE)) (qss (qset 4 zbj.nd (qtup (qa (zce hr (qv 3) zaD) (qa (zce hr (qv 3) zaD) qa0))))
   (zaL (qsetix hr (qadd (qget2 hr (qv 2) (qv 4) zaD) zaD) (qv 2) (qv 4)))) zaw)))
   (zaL (qthaw (zbZ (qtupleI b_tuple (qa (qsortedP b_sorted (qa (qcomp ["pair","many","counts"] [none,some 1,some 2] (blkOk (oN := ["letters","many","counts","letter","pair"]) (osc := zab zaE) rfl rfl (by decide +kernel)) (qi_dct (qv 2)) (fun _ _ _ _ => (zbz 0 (show List.Nodup (["pair","many","counts"] : List Str) by decide +kernel))) (fun _ _ _ _ => (qifs1 (qtru (zaP F_more_than_half hr (qa (zce hr (qv 2) (qv 0)) (qa (qv 1) qa0)))))) (fun _ _ _ _ => (qv 0))) qa0)) qa0))))))),fun ts G Q h => ?_⟩
  obtain ⟨L,m,rfl,hL,h64,h⟩ := h
  simp_arith []
  intro d hd
  refine forL_inv (J := fun r τ G1 => ∃ L1 L2 o3 o4,L = L1 ++ L2 /\ r = L2.map zbV /\ τ = [some (.tup (L.map zbV)),some (.int m),some (.ref d),o3,o4] /\ G1 = updG G d (cO (P.counts L1))) (fun r τ G1 j => trivial) (fun τ G1 j => ?_) (fun x r τ G1 N hN j => ?_) _ _ _ ⟨[],L,_,_,rfl,rfl,rfl,rfl⟩
  ·obtain ⟨L1,L2,o3,o4,eL,er,rfl,rfl⟩ := j
   have e2 : L2 = [] := by simpa using er.symm
   subst e2
   rw [List.append_nil] at eL
   subst eL
   cases hcn : P.counts L with
   | nil =>
    have hw : P.won L m = [] := by simp [P.won,hcn]
    rw [hw] at h
    refine .inl ⟨d,[],zaa,?_⟩
    simp! [wComp,iDct,zaa,compL,vis3,cO]
    intro ob l hl
    rw [zbu] at hl ⊢
    have n1 : l ≠ d := by rintro rfl; rw [zaa] at hl; cases hl
    rw [zac n1] at hl
    simp only [srtP3,zaa]
    refine ⟨[],rfl,by simp,by decide,fun q hq => ?_⟩
    have n2 : q ≠ l := by rintro rfl; rw [zaa] at hq; cases hq
    rw [zac n2] at hq
    have n3 : q ≠ d := by rintro rfl; rw [zaa] at hq; cases hq
    rw [zac n3] at hq
    try simp only [zaa]
    refine ⟨ob,by rw [zac (Ne.symm n3),zac (Ne.symm n1)]; exact zaa,?_⟩
    refine h _ fun a o e => ?_
    have e1 := neG e hd
    rw [zac e1,zac (neG e hq),zac (neG e hl),zac e1]
    exact e
   | cons y r =>
    have hne : P.counts L ≠ [] := by rw [hcn]; simp
    have hlen : (P.counts L).length <= 1000000 := by have := counts_len L; omega
    rw [<- hcn]
    rw [cO_ne hne]
    clear hcn
    refine .inr ⟨d,_,zaa,?_⟩
    simp_arith [iDct,zaa]
    intro ob
    rw [zbu]
    refine ⟨hlen,?_⟩
    have et : List.map ((fun kv : LK × T => lkT kv.1) ∘ fun p : (Int × Int) × Int => (pK p.1,T.int p.2)) (P.counts L) = (P.counts L).map fun p => pT p.1 := rfl
    rw [et]
    refine compL_fm (wonT L m) id zaa _ [] (fun x hx R k => k _ (fun R' r => ?_) fun _ R' r => by simpa [wSeq,wIfS,zcf,wRet,wRetN,wOp,wVar,wC,iI,iI0,start3,wCB,za3,wNil,lenA3,zbm,ix3,ixA,dGet,wNext,wSet,wCall,wTup,wLst,wTru,truT,wAnd,wOr,wNot,wAndV,wOrV,wNotV,wNotT,wIsN,wNotN,isN,wFld,zbn,wMeth,wMeth0,wMake,wDrop,wAsg,hName,hSub,wDNew,tupI,itemsT,iR1,iR2,wTrue,wIsi,isInt,isBool,zbN,mx3,mn3,wSlice,wP0,wP1,zbT,wApp,app3,onLst,vis3,iSeq,wNever,hTup,hCons,hNil,wGet1,wGet2,get3,onDct] using r) ?_
    ·obtain ⟨p,hp,rfl⟩ := List.mem_map.mp hx
     have hg := c_getF (G := updG G d (.dG ob ((P.counts L).map fun p => (pK p.1,T.int p.2)))) zaa p.1
     have hv := P.getL_mem (P.counts_nodup L) (show (p.1,p.2) ∈ P.counts L from hp)
     have e : wonT L m (pT p.1) = decide ((m : Int) < 2 * p.2) := by
      have : pairOf (pT p.1) = some p.1 := rfl
      simp only [wonT,this,hv,Option.getD_some]
     rw [e] at r
     rw [hv] at hg
     simp_arith []
     refine ixA_get hg ?_
     simp only [zan]
     exact r
    ·rw [List.nil_append,won_T,List.map_id]
     intro l hl
     have n1 : l ≠ d := by rintro rfl; rw [zaa] at hl; cases hl
     rw [zac n1] at hl
     simp only [srtP3,zaa]
     refine ⟨P.won L m,rfl,P.won_nodup L m,h64,fun q hq => ?_⟩
     have n2 : q ≠ l := by rintro rfl; rw [zaa] at hq; cases hq
     rw [zac n2] at hq
     have n3 : q ≠ d := by rintro rfl; rw [zaa] at hq; cases hq
     rw [zac n3] at hq
     try simp only [zaa]
     refine ⟨ob,by rw [zac (Ne.symm n3),zac (Ne.symm n1)]; exact zaa,?_⟩
     refine h _ fun a o e => ?_
     have e1 := neG e hd
     rw [zac e1,zac (neG e hq),zac (neG e hl),zac e1]
     exact e
  ·obtain ⟨L1,L2,o3,o4,eL,er,rfl,rfl⟩ := j
   cases L2 with
   | nil => simp at er
   | cons y L2 =>
    simp only [List.map_cons,List.cons.injEq] at er
    obtain ⟨rfl,rfl⟩ := er
    have hc : P.counts (L1 ++ [y]) = P.tally (P.counts L1) y := by simp [P.counts]
    have go : ∀ o4',N [some (.tup (L.map zbV)),some (.int m),some (.ref d),some (zbV y),o4'] (updG G d (cO (P.tally (P.counts L1) y))) := fun o4' => hN _ _ ⟨L1 ++ [y],L2,_,_,by simp [eL],rfl,rfl,by rw [hc]⟩
    simp_arith [letT_eq]
    refine zak (i := 0) (letTs_0 y) ?_
    cases y with
    | vote b v w =>
     simp [wD,toD,eqvS,ok1,ok2,ok3',ok4,s12,s13,s14,s23,s24,s34,s12.symm,s13.symm,s14.symm,s23.symm,s24.symm,s34.symm,kindOf,letTs]
     refine zak (i := 1) rfl ?_
     refine zak (i := 3) rfl ?_
     have hlen : (P.counts L1).length <= 1000000 := by
      have := counts_len L1
      have : L1.length <= L.length := by rw [eL]; simp
      omega
     refine onDct_c zaa ?_
     refine get3_c (k := (b,w)) zaa ?_
     simp
     refine c_set (q := (b,w)) zaa hlen ?_
     rw [zbu]
     exact go _
    | prepare b => simp [wD,toD,eqvS,ok1,ok2,ok3',ok4,s12,s13,s14,s23,s24,s34,s12.symm,s13.symm,s14.symm,s23.symm,s24.symm,s34.symm,kindOf]; exact go _
    | promise b v l => simp [wD,toD,eqvS,ok1,ok2,ok3',ok4,s12,s13,s14,s23,s24,s34,s12.symm,s13.symm,s14.symm,s23.symm,s24.symm,s34.symm,kindOf]; exact go _
    | ask b w => simp [wD,toD,eqvS,ok1,ok2,ok3',ok4,s12,s13,s14,s23,s24,s34,s12.symm,s13.symm,s14.symm,s23.symm,s24.symm,s34.symm,kindOf]; exact go _
def zbv (Z : Cz) : Sp3 := fun ts G Q => ∃ A S n,ts = [.ref (A .r)] /\ RoomAt Z G A S /\ P.Ok n S /\ n < 64 /\ ∀ G',Ext G G' -> Q (.tup ((zbf (P.won S.letters S.many)).map pT)) G'
abbrev zaX : Stmt := zas (top 27) 10
theorem sc_Room_chosen : FnScope ["self"] ["self"] (zab zaX) := ⟨rfl,rfl,rfl,by decide +kernel,rfl,by decide +kernel,by decide +kernel⟩
theorem ok_Room_chosen {f : Addr} {fd : FuncData} (F : Fun K "chosen" "Room.chosen" zaX f fd) (aT : At K Z) (F_chosen_pairs : zbS Pg w K mg base 2 "chosen_pairs" ["letters","many"] (zbK Z)) (M_Pile_letters : zbD Pg w K mg base 1 Z.P "letters" ["self"] (zbi Z)) : FOk Pg w K mg base 3 f fd ["self"] (zbv Z) := by
 refine ok3 F sc_Room_chosen (fun ts G Q h => ?_) (fun cdv A outer s H E hr => ?_)
 ·obtain ⟨A,S,n,rfl,_⟩ := h; rfl
 ·refine ⟨_,(zaL (zbZ (zaP F_chosen_pairs hr (qa (cmeth0 (zb2 (qv 0)) (M_Pile_letters.mono (by decide : 1 <= 2)) hr) (qa (zb2 (qv 0)) qa0))))),fun ts G Q h => ?_⟩
  obtain ⟨A,S,n,rfl,R,ok,hn,h⟩ := h
  simp! []
  refine zad (R.at' .r trivial) fR_pile aT.pile ?_
  refine zaj (R.at' .p trivial) rfl ?_
  refine ⟨_,_,_,_,rfl,R.at' .p trivial,R.at' .pr trivial,?_⟩
  refine zad (R.at' .r trivial) fR_many aT.rmany ?_
  have h1 := ok.ln
  have h2 := P.won_few ok
  exact ⟨_,_,rfl,by omega,by omega,h⟩
def zby (Z : Cz) : Sp3 := fun ts G Q => ∃ (ns : List Int) (k : Nat),ts = [.fro (ns.map T.int),.int k] /\ Q (.int (cellI ns k)) G
abbrev zbr : Stmt := top 29
theorem sc__law_cell : FnScope ["_law_script","_law_k"] ["_law_script","_law_k"] (zab zbr) := ⟨rfl,rfl,rfl,by decide +kernel,rfl,by decide +kernel,by decide +kernel⟩
theorem ok__law_cell {f : Addr} {fd : FuncData} (F : Fun K "_law_cell" "_law_cell" zbr f fd) (aT : At K Z) (b_len : mg "len" = none) : FOk Pg w K mg base 1 f fd ["_law_script","_law_k"] (zby Z) := by
 refine ok3 F sc__law_cell (fun ts G Q h => ?_) (fun cdv A outer s H E hr => ?_)
 ·obtain ⟨ns,k,rfl,_⟩ := h; rfl
 ·refine ⟨_,(qss (qifs (qtlt (qv 1) (qlenA b_len (qa (qv 0) qa0))) (zaL (zbZ (zce hr (qv 0) (qv 1)))) zaw)
   (zaL (zbZ zaD))),fun ts G Q h => ?_⟩
  obtain ⟨ns,k,rfl,h⟩ := h
  simp! []
  by_cases c : k < ns.length
  ·have e1 : atI (ns.map T.int) (k : Int) = some (.int ns[k]) := zb1 (by simp [c])
   simp only [c,if_true,e1]
   simpa [c,cellI] using h
  ·simp only [c,if_false]
   have : ns.length <= k := by omega
   simpa [this,cellI] using h
def za4 (Z : Cz) : Sp3 := fun ts G Q => ∃ c p m,ts = [.int c,.int p,.int m] /\ 0 < p /\ 0 < m /\ Q (.int (mix c p m)) G
abbrev zbJ : Stmt := top 30
theorem sc__law_mix : FnScope ["_law_cell_here","_law_prime","_law_many_here"] ["_law_cell_here","_law_prime","_law_many_here"] (zab zbJ) := ⟨rfl,rfl,rfl,by decide +kernel,rfl,by decide +kernel,by decide +kernel⟩
theorem ok__law_mix {f : Addr} {fd : FuncData} (F : Fun K "_law_mix" "_law_mix" zbJ f fd) (aT : At K Z)  : FOk Pg w K mg base 1 f fd ["_law_cell_here","_law_prime","_law_many_here"] (za4 Z) := by
 refine ok3 F sc__law_mix (fun ts G Q h => ?_) (fun cdv A outer s H E hr => ?_)
 ·obtain ⟨c,p,m,rfl,_⟩ := h; rfl
 ·refine ⟨_,(zaL (zbZ (qmod (qmod (qmul (qv 0) zaD) (qv 1)) (qv 2)))),fun ts G Q h => ?_⟩
  obtain ⟨c,p,m,rfl,h1,h2,h⟩ := h
  simp! []
  exact ⟨.inr ⟨by decide,by decide⟩,h1,h2,h⟩
def wishL (ns : List Int) : List Int := (List.range (1 + mix (cellI ns 0) 9973 4).toNat).map fun (k : Nat) => (cellI ns 1 + 31 * (k : Int)) % 10 ^ 9 - 99 * ((k : Int) % 2)
def zbX (Z : Cz) : Sp3 := fun ts G Q => ∃ ns : List Int,ts = [.fro (ns.map T.int)] /\ ∀ G',Ext G G' -> Q (.tup ((wishL ns).map T.int)) G'
abbrev zaK : Stmt := top 31
theorem sc__law_wishes : FnScope ["_law_script","_law_many_here"] ["_law_script"] (zab zaK) := ⟨rfl,rfl,rfl,by decide +kernel,rfl,by decide +kernel,by decide +kernel⟩
theorem ok__law_wishes {f : Addr} {fd : FuncData} (F : Fun K "_law_wishes" "_law_wishes" zaK f fd) (aT : At K Z) (b_range : mg "range" = none) (b_tuple : mg "tuple" = none) (F__law_cell : zbS Pg w K mg base 1 "_law_cell" ["_law_script","_law_k"] (zby Z)) (F__law_mix : zbS Pg w K mg base 1 "_law_mix" ["_law_cell_here","_law_prime","_law_many_here"] (za4 Z)) : FOk Pg w K mg base 2 f fd ["_law_script"] (zbX Z) := by
 refine ok3 F sc__law_wishes (fun ts G Q h => ?_) (fun cdv A outer s H E hr => ?_)
 ·obtain ⟨ns,rfl,_⟩ := h; rfl
 ·refine ⟨_,(qss (qset 1 sc__law_wishes.nd (qadd zaD (zaP F__law_mix hr (qa (zaP F__law_cell hr (qa (qv 0) (qa zaD qa0))) (qa zaD (qa zaD qa0))))))
   (zaL (zbZ (qtupleI b_tuple (qa (qcomp ["_law_k","_law_script"] [none,some 0] (blkOk (oN := ["_law_script","_law_many_here"]) (osc := zab zaK) rfl rfl (by decide +kernel)) (qi_r1 b_range (qa (qv 1) qa0)) (fun _ _ _ _ => (zbz 0 (show List.Nodup (["_law_k","_law_script"] : List Str) by decide +kernel))) (fun _ _ _ _ => qifs0) (fun _ _ _ _ => (qsub (qmod (qadd (zaP F__law_cell hr (qa (qv 1) (qa zaD qa0))) (qmul zaD (qv 0))) (qpow zaD zaD)) (qmul zaD (qmod (qv 0) zaD))))) qa0))))),fun ts G Q h => ?_⟩
  obtain ⟨ns,rfl,h⟩ := h
  simp! []
  refine ⟨ns,0,rfl,?_⟩
  refine ⟨_,_,_,rfl,by decide,by decide,?_⟩
  have hm := zbM (cellI ns 0) 9973 4 (by decide)
  simp! [wComp]
  refine ⟨by omega,by simp [rngT]; omega,?_⟩
  refine zbO (fun x => match x with | .int k => .int ((cellI ns 1 + 31 * k) % 10 ^ 9 - 99 * (k % 2)) | _ => .non) trivial _ (fun x hx R r => ?_) ?_
  ·obtain ⟨k,_,rfl⟩ := List.mem_map.mp hx
   refine ⟨ns,1,rfl,?_⟩
   simp! []
   exact ⟨.inl ⟨by decide,by decide⟩,⟨by decide,by decide,by decide⟩,.inl ⟨by decide,by decide⟩,by simpa using r⟩
  ·intro d hd
   simp only [zaa]
   have e : (rngT 0 (1 + mix (cellI ns 0) 9973 4)).map (fun x => match x with | T.int k => T.int ((cellI ns 1 + 31 * k) % 10 ^ 9 - 99 * (k % 2)) | _ => .non) = (wishL ns).map T.int := by
    simp [rngT,wishL]
   rw [e]
   exact h _ (Ext.new hd)
theorem wishL_len (ns : List Int) : 0 < (wishL ns).length /\ (wishL ns).length <= 4 := by
 have := zbM (cellI ns 0) 9973 4 (by decide)
 simp [wishL]; omega
def manyL : List Nat := [3,3,5,1,4,2,3,7,6,5]
def manyOf (ns : List Int) : Nat := manyL.getD (mix (cellI ns 0) 9967 10).toNat 0
theorem many_at (ns : List Int) : manyL[(mix (cellI ns 0) 9967 10).toNat]? = some (manyOf ns) /\ 1 <= manyOf ns /\ manyOf ns <= 7 := by
 have h := zbM (cellI ns 0) 9967 10 (by decide)
 have hl : (mix (cellI ns 0) 9967 10).toNat < 10 := by omega
 unfold manyOf
 generalize (mix (cellI ns 0) 9967 10).toNat = i at hl
 have key : ∀ i,i < 10 -> manyL[i]? = some (manyL.getD i 0) /\ 1 <= manyL.getD i 0 /\ manyL.getD i 0 <= 7 := by decide
 exact key i hl
def sp__law_many (Z : Cz) : Sp3 := fun ts G Q => ∃ ns : List Int,ts = [.fro (ns.map T.int)] /\ Q (.int (manyOf ns)) G
abbrev zbq : Stmt := top 32
theorem sc__law_many : FnScope ["_law_script"] ["_law_script"] (zab zbq) := ⟨rfl,rfl,rfl,by decide +kernel,rfl,by decide +kernel,by decide +kernel⟩
theorem ok__law_many {f : Addr} {fd : FuncData} (F : Fun K "_law_many" "_law_many" zbq f fd) (aT : At K Z) (F__law_cell : zbS Pg w K mg base 1 "_law_cell" ["_law_script","_law_k"] (zby Z)) (F__law_mix : zbS Pg w K mg base 1 "_law_mix" ["_law_cell_here","_law_prime","_law_many_here"] (za4 Z)) : FOk Pg w K mg base 2 f fd ["_law_script"] (sp__law_many Z) := by
 refine ok3 F sc__law_many (fun ts G Q h => ?_) (fun cdv A outer s H E hr => ?_)
 ·obtain ⟨ns,rfl,_⟩ := h; rfl
 ·refine ⟨_,(zaL (zbZ (zce hr (qtup (t := (za3 (wC (T.int 3)) (za3 (wC (T.int 3)) (za3 (wC (T.int 5)) (za3 (wC (T.int 1)) (za3 (wC (T.int 4)) (za3 (wC (T.int 2)) (za3 (wC (T.int 3)) (za3 (wC (T.int 7)) (za3 (wC (T.int 6)) (za3 (wC (T.int 5)) wNil))))))))))) (by (iterate 10 refine qaI ?_); exact qa0)) (zaP F__law_mix hr (qa (zaP F__law_cell hr (qa (qv 0) (qa zaD qa0))) (qa zaD (qa zaD qa0))))))),fun ts G Q h => ?_⟩
  obtain ⟨ns,rfl,h⟩ := h
  simp_arith []
  refine ⟨ns,0,rfl,?_⟩
  refine ⟨_,_,_,rfl,by decide,by decide,?_⟩
  have hm := zbM (cellI ns 0) 9967 10 (by decide)
  obtain ⟨i,hi⟩ := Int.eq_ofNat_of_zero_le hm.1
  have ha := (many_at ns).1
  rw [hi] at ha ⊢
  refine zak (i := i) (v := .int (manyOf ns)) ?_ h
  show (manyL.map fun (k : Nat) => T.int k)[i]? = _
  rw [List.getElem?_map]
  simp at ha
  rw [ha]; rfl
theorem map_erase {α β : Type} (f : α -> β) : ∀ (l : List α) (i : Nat),(l.map f).eraseIdx i = (l.eraseIdx i).map f
 | [],_ => rfl
 | _ :: _,0 => rfl
 | x :: r,i + 1 => by simp [map_erase f r i]
abbrev vsI (vs : List Nat) : List T := vs.map fun (v : Nat) => T.int v
def zbx (Z : Cz) : Sp3 := fun ts G Q => ∃ (c : Int) (m k : Nat),ts = [.int c,.int m,.int k] /\ k <= m /\ m <= 1000 /\ ∀ G' l,Ext G G' -> G l = none -> G' l = some (.lst (vsI (someL c m k))) -> Q (.ref l) G'
abbrev za5 : Stmt := top 33
theorem sc__law_some : FnScope ["_law_cell_here","_law_many_here","_law_size","_law_left"] ["_law_cell_here","_law_many_here","_law_size"] (zab za5) := ⟨rfl,rfl,rfl,by decide +kernel,rfl,by decide +kernel,by decide +kernel⟩
theorem ok__law_some {f : Addr} {fd : FuncData} (F : Fun K "_law_some" "_law_some" za5 f fd) (aT : At K Z) (b_list : mg "list" = none) (b_range : mg "range" = none) (F__law_mix : zbS Pg w K mg base 1 "_law_mix" ["_law_cell_here","_law_prime","_law_many_here"] (za4 Z)) : FOk Pg w K mg base 2 f fd ["_law_cell_here","_law_many_here","_law_size"] (zbx Z) := by
 refine ok3 F sc__law_some (fun ts G Q h => ?_) (fun cdv A outer s H E hr => ?_)
 ·obtain ⟨c,m,k,rfl,_⟩ := h; rfl
 ·refine ⟨_,(qss (qset 3 sc__law_some.nd (qlistR b_list b_range (qa (qv 1) qa0)))
   (zaL (zbZ (qcomp ["_law_k","_law_left","_law_cell_here","_law_many_here"] [none,some 3,some 0,some 1] (blkOk (oN := ["_law_cell_here","_law_many_here","_law_size","_law_left"]) (osc := zab za5) rfl rfl (by decide +kernel)) (qi_r1 b_range (qa (qv 2) qa0)) (fun _ _ _ _ => (zbz 0 (show List.Nodup (["_law_k","_law_left","_law_cell_here","_law_many_here"] : List Str) by decide +kernel))) (fun _ _ _ _ => qifs0) (fun _ _ _ _ => (qpopAt (qv 1) (qa (zaP F__law_mix hr (qa (qadd (qv 2) (qmul zaD (qv 0))) (qa zaD (qa (qsub (qv 3) (qv 0)) qa0)))) qa0))))))),fun ts G Q h => ?_⟩
  obtain ⟨c,m,k,rfl,hk,hm,h⟩ := h
  simp_arith []
  refine ⟨by omega,fun l0 hl0 => ?_⟩
  refine ⟨by omega,by simp [rngT]; omega,?_⟩
  refine compL_inv (J := fun r acc G1 => ∃ j,j <= k /\ r = (rngT 0 k).drop j /\ acc = vsI (popS c m j).2 /\ G1 = updG G l0 (.lst (vsI (popS c m j).1))) (fun r acc G1 j => trivial) (fun acc G1 j => ?_) (fun x r acc G1 N hN j => ?_) _ _ _ ⟨0,by omega,rfl,rfl,rfl⟩
  ·obtain ⟨j,hj,er,rfl,rfl⟩ := j
   have ej : j = k := by
    have := congrArg List.length er
    simp [rngT] at this
    omega
   subst ej
   intro l hl
   have nl : l ≠ l0 := by rintro rfl; rw [zaa] at hl; cases hl
   rw [zac nl] at hl
   exact h _ l ((Ext.new hl0).trans (Ext.new (by rw [zac nl]; exact hl))) hl zaa
  ·obtain ⟨j,hj,er,rfl,rfl⟩ := j
   have hjk : j < k := by
    have := congrArg List.length er
    simp [rngT] at this
    omega
   rw [rng_drop hjk] at er
   cases er
   have hp := popIx_lt (c := c) (m := m) (j := j) (by omega)
   have hl1 := (popS_len (c := c) (m := m) (j := j) (by omega)).1
   simp_arith []
   refine onLst_at zaa ?_
   refine ⟨.inl ⟨by decide,by decide⟩,_,_,_,rfl,by decide,by omega,?_⟩
   have hx : mix (c + 5 * (j : Int)) 9883 ((m : Int) - (j : Int)) = (popIx c m j : Int) := by
    have := zbM (c + 5 * (j : Int)) 9883 ((m : Int) - (j : Int)) (by omega)
    unfold popIx; omega
   rw [hx]
   simp only [pop3,zaa]
   refine ⟨by omega,by simp [hl1]; omega,by simp [hl1]; omega,?_⟩
   rw [zbu]
   refine hN _ _ ⟨j + 1,by omega,rfl,?_,?_⟩
   ·have hlt : popIx c m j < (popS c m j).1.length := by omega
    simp [popS,hlt]
   ·simp [popS,map_erase]
def zb6 (Z : Cz) : Sp3 := fun ts G Q => ∃ (n : Nat) (r dn : Addr) (A : Adr) (S : P.R) (k : Nat) (a : Ac),ts = [.ref r,actT a,.ref dn] /\ Hs Z n dn r G A S k /\ a.fits S /\ k <= 900000 /\ n <= 1000 /\
 ∀ G' A' S',Hs Z (n + a.cost) dn r G' A' S' (k + 1) -> Mv dn [a] G A S G' A' S' -> Q .non G'
abbrev zca : Stmt := top 34
theorem sc__law_do : FnScope ["_law_room","_law_act","_law_done"] ["_law_room","_law_act","_law_done"] (zab zca) := ⟨rfl,rfl,rfl,by decide +kernel,rfl,by decide +kernel,by decide +kernel⟩
theorem ok__law_do {f : Addr} {fd : FuncData} (F : Fun K "_law_do" "_law_do" zca f fd) (aT : At K Z) (M_Room_begin : zbD Pg w K mg base 3 Z.R "begin" ["self","asker","least"] (zci Z)) (M_Room_bring : zbD Pg w K mg base 5 Z.R "bring" ["self","k","voter"] (zch Z)) (M_Room_fall : zbD Pg w K mg base 2 Z.R "fall" ["self","asker"] (sp_Room_fall Z)) : FOk Pg w K mg base 6 f fd ["_law_room","_law_act","_law_done"] (zb6 Z) := by
 refine ok3 F sc__law_do (fun ts G Q h => ?_) (fun cdv A outer s H E hr => ?_)
 ·obtain ⟨n,r,dn,A,S,k,a,rfl,_⟩ := h; rfl
 ·refine ⟨_,(qss (qifs (qteq hr (zce hr (qv 1) zaD) qstr) (zaL (qexpr (cmeth (qv 0) (M_Room_begin.mono (by decide : 3 <= 5)) hr (qa (zce hr (qv 1) zaD) (qa (zce hr (qv 1) zaD) qa0))))) (zaL (qifs (qteq hr (zce hr (qv 1) zaD) qstr) (zaL (qexpr (cmeth (qv 0) (M_Room_fall.mono (by decide : 2 <= 5)) hr (qa (zce hr (qv 1) zaD) qa0)))) (zaL (qexpr (cmeth (qv 0) M_Room_bring hr (qa (zce hr (qv 1) zaD) (qa (zce hr (qv 1) zaD) qa0))))))))
   (zaL (qexpr (qappend (qv 2) (qa (qv 1) qa0))))),fun ts G Q h => ?_⟩
  obtain ⟨n,r,dn,A,S,k,a,rfl,⟨R,ok,rfl,⟨ds,hds,hl⟩,nd⟩,f,hk,hn,h⟩ := h
  have hf := okN ok hn
  cases a with
  | begin i l =>
   simp_arith [actT]
   refine zak (i := 0) rfl ?_
   simp [wD,toD,eqvS,okb1,okb2,okb3,sb12,sb13,sb23,sb12.symm,sb13.symm,sb23.symm]
   refine zaj (R.at' .r trivial) rfl ?_
   refine zak (i := 1) rfl ?_
   refine zak (i := 2) rfl ?_
   refine ⟨A,S,l,i,rfl,R,f.1,hf.ln,fun A' G' ea R' F => ?_⟩
   have g := F dn _ nd hds
   refine onLst_at g.1 (app3_at g.1 (by omega) ?_)
   obtain ⟨h1,h2⟩ := do_end (a := .begin i l) f R' F ea ok hds hl nd
   exact h _ _ _ h1 h2
  | fall i =>
   simp_arith [actT]
   refine zak (i := 0) rfl ?_
   simp [wD,toD,eqvS,okb1,okb2,okb3,sb12,sb13,sb23,sb12.symm,sb13.symm,sb23.symm]
   refine zak (i := 0) rfl ?_
   simp [wD,toD,eqvS,okb1,okb2,okb3,sb12,sb13,sb23,sb12.symm,sb13.symm,sb23.symm]
   refine zaj (R.at' .r trivial) rfl ?_
   refine zak (i := 1) rfl ?_
   refine ⟨A,S,i,rfl,R,f,fun G' R' F => ?_⟩
   have g := F dn _ nd hds
   refine onLst_at g.1 (app3_at g.1 (by omega) ?_)
   obtain ⟨h1,h2⟩ := do_end (a := .fall i) f R' F rfl ok hds hl nd
   exact h _ _ _ h1 h2
  | bring b v =>
   simp_arith [actT]
   refine zak (i := 0) rfl ?_
   simp [wD,toD,eqvS,okb1,okb2,okb3,sb12,sb13,sb23,sb12.symm,sb13.symm,sb23.symm]
   refine zak (i := 0) rfl ?_
   simp [wD,toD,eqvS,okb1,okb2,okb3,sb12,sb13,sb23,sb12.symm,sb13.symm,sb23.symm]
   refine zaj (R.at' .r trivial) rfl ?_
   refine zak (i := 1) rfl ?_
   refine zak (i := 2) rfl ?_
   refine ⟨A,S,b,v,rfl,R,hf,f.1,f.2,fun G' R' F => ?_⟩
   have g := F dn _ nd hds
   refine onLst_at g.1 (app3_at g.1 (by omega) ?_)
   obtain ⟨h1,h2⟩ := do_end (a := .bring b v) f R' F rfl ok hds hl nd
   exact h _ _ _ h1 h2
def zaS (Z : Cz) : Sp3 := fun ts G Q => ∃ (n : Nat) (r dn vl : Addr) (A : Adr) (S : P.R) (k : Nat) (kd : Str) (b : Int) (vs : List Nat),ts = [.ref r,.str kd,.int b,.ref vl,.ref dn] /\ Hs Z n dn r G A S k /\ n <= 1000 /\ k <= 500000 /\ PyData.strOk kd = true /\
 G vl = some (.lst (vsI vs)) /\ vl ≠ dn /\ ¬ own A S vl /\ (∀ v ∈ vs,v < S.many) /\ vs.length <= 7 /\ ∀ G' A' S' as,Hs Z n dn r G' A' S' (k + 112000) -> Mv dn as G A S G' A' S' -> Q .non G'
abbrev za8 : Stmt := top 35
theorem zbF : FnScope ["_law_room","_law_kind","_law_ballot","_law_voters","_law_done","_law_k","_law_letter","_law_voter"] ["_law_room","_law_kind","_law_ballot","_law_voters","_law_done"] (zab za8) := ⟨rfl,rfl,rfl,by decide +kernel,rfl,by decide +kernel,by decide +kernel⟩
theorem ok__law_bring {f : Addr} {fd : FuncData} (F : Fun K "_law_bring" "_law_bring" za8 f fd) (aT : At K Z) (b_enumerate : mg "enumerate" = none) (F__law_do : zbS Pg w K mg base 6 "_law_do" ["_law_room","_law_act","_law_done"] (zb6 Z)) (M_Room_letters : zbD Pg w K mg base 2 Z.R "letters" ["self"] (zbg Z)) : FOk Pg w K mg base 7 f fd ["_law_room","_law_kind","_law_ballot","_law_voters","_law_done"] (zaS Z) := by
 refine ok3 F zbF (fun ts G Q h => ?_) (fun cdv A outer s H E hr => ?_)
 ·obtain ⟨n,r,dn,vl,A,S,k,kd,b,vs,rfl,_⟩ := h; rfl
 ·refine ⟨_,(zaL (qfor (qi_enum b_enumerate (qa (cmeth0 (qv 0) (M_Room_letters.mono (by decide : 2 <= 6)) hr) qa0)) (qgtup (n := 2) (qgs (zbz 5 zbF.nd) (qgs (zbz 6 zbF.nd) qgs0))) (zaL (qifs (qteq hr (qslice (qv 6) qp0 (qp1 zaD)) (qtup (qa (qv 1) (qa (qv 2) qa0)))) (zaL (qfor (qi_seq (qv 3)) (zbz 7 zbF.nd) (zaL (qexpr (zaP F__law_do hr (qa (qv 0) (qa (qtup (qa qstr (qa (qv 5) (qa (qv 7) qa0)))) (qa (qv 4) qa0)))))))) zaw)))),fun ts G Q h => ?_⟩
  obtain ⟨n,r,dn,vl,A,S,k,kd,b,vs,rfl,H,hn,hk,hkd,hvl,nvd,nvo,hvs,hvl7,h⟩ := h
  have hln := H.ok.ln
  simp_arith []
  refine zaj (H.er ▸ H.R.at' .r trivial) rfl ?_
  refine ⟨A,S,by rw [H.er],H.R,?_⟩
  simp_arith [iEnum]
  refine forL_inv (J := fun q τ G1 => ∃ j A1 S1 as o5 o6 o7,q = (zbR (S.letters.map zbV)).drop j /\ j <= S.letters.length /\ τ = [some (.ref r),some (.str kd),some (.int b),some (.ref vl),some (.ref dn),o5,o6,o7] /\ Hs Z n dn r G1 A1 S1 (k + j * 7) /\ Mv dn as G A S G1 A1 S1)
   (fun q τ G1 j => trivial) (fun τ G1 j => ?_) (fun x q τ G1 N hN j => ?_) _ _ _ ⟨0,A,S,[],_,_,_,rfl,by omega,rfl,H,Mv.refl⟩
  ·obtain ⟨j,A1,S1,as,o5,o6,o7,er,hj,rfl,H1,M1⟩ := j
   exact h _ _ _ _ (H1.more (by omega)) M1
  ·obtain ⟨j,A1,S1,as,o5,o6,o7,er,hj,rfl,H1,M1⟩ := j
   have hjl : j < S.letters.length := by
    have := congrArg List.length er
    simp [zbR] at this
    omega
   rw [enumL_drop (by simpa using hjl)] at er
   cases er
   have ex : (S.letters.map zbV).getD j .non = .tup (letTs S.letters[j]) := by simp [hjl,letT_eq]
   rw [ex]
   simp_arith []
   rw [cut2]
   simp only [wD,toD,allD,ok_kind,hkd,if_true,Option.map_some,Option.bind_some]
   generalize PyData.eqv _ _ = c
   cases c with
   | false =>
    simp
    exact hN _ _ ⟨j + 1,A1,S1,as,_,_,_,rfl,by omega,rfl,H1.more (by omega),M1⟩
   | true =>
    simp
    have hv1 := M1.fr vl _ nvd nvo hvl
    simp only [wFor,iSeq,wVar,List.getElem?_cons_succ,List.getElem?_cons_zero,hv1.1]
    refine forL_inv (J := fun q τ G2 => ∃ i A2 S2 bs o7,q = (vsI vs).drop i /\ i <= vs.length /\ τ = [some (.ref r),some (.str kd),some (.int b),some (.ref vl),some (.ref dn),some (.int j),some (.tup (letTs S.letters[j])),o7] /\ Hs Z n dn r G2 A2 S2 (k + j * 7 + i) /\ Mv dn bs G A S G2 A2 S2)
     (fun q τ G2 i => ?_) (fun τ G2 i => ?_) (fun x q τ G2 N2 hN2 i => ?_) _ _ _ ⟨0,A1,S1,as,_,rfl,by omega,rfl,H1,M1⟩
    ·obtain ⟨i,A2,S2,bs,o7,er,hi,rfl,H2,M2⟩ := i
     exact (M2.fr vl _ nvd nvo hvl).1
    ·obtain ⟨i,A2,S2,bs,o7,er,hi,rfl,H2,M2⟩ := i
     exact hN _ _ ⟨j + 1,A2,S2,bs,_,_,_,rfl,by omega,rfl,H2.more (by omega),M2⟩
    ·obtain ⟨i,A2,S2,bs,o7,er,hi,rfl,H2,M2⟩ := i
     have hil : i < vs.length := by
      have := congrArg List.length er
      simp at this
      omega
     have e2 : (vsI vs).drop i = .int (vs[i] : Int) :: (vsI vs).drop (i + 1) := by rw [List.drop_eq_getElem_cons (by simpa using hil)]; simp
     rw [e2] at er
     cases er
     simp_arith []
     have hj2 : j < S2.letters.length := Nat.lt_of_lt_of_le hjl M2.gr.l.length_le
     refine ⟨n,r,dn,A2,S2,_,.bring j vs[i],rfl,H2,⟨hj2,by rw [M2.gr.m]; exact hvs _ (List.getElem_mem hil)⟩,by omega,hn,fun G3 A3 S3 H3 M3 => ?_⟩
     exact hN2 _ _ ⟨i + 1,A3,S3,_,_,rfl,by omega,rfl,H3.more (by omega),M2.trans M3⟩
theorem play_tail {n : Nat} {r dn : Addr} {A : Adr} {S : P.R} {c l : Int} {i sz : Nat} {Q : VK3} {G : Gp} (H : Hs Z n dn r G A S 0) (hn : n <= 900) (hm : 1 <= S.many) (hin : i < S.wishes.length) (hl : 0 <= l) (hsz : sz <= S.many)
  (h : ∀ G' A' S' as,Hs Z (n + 1) dn r G' A' S' 400000 -> Mv dn as G A S G' A' S' -> Q .non G') :
  zb6 Z [T.ref r,T.tup [T.str "begin",T.int i,T.int l],T.ref dn] G fun x G1 => onIns (T.ref r) Z.R "ballot_of" G1 (zaU Z [T.ref r,T.int i] G1 fun x G1 =>
   zbx Z [T.int (c + 1),T.int S.many,T.int sz] G1 fun x_1 G1 => zaS Z [T.ref r,T.str "prepare",x,x_1,T.ref dn] G1 fun x_2 G1 => ∀ p : Addr,G1 p = none ->
   zaS Z [T.ref r,T.str "promise",x,T.ref p,T.ref dn] (updG G1 p (GO.lst [T.int 0])) fun x_3 G1 => za4 Z [T.int c,T.int 9907,T.int (S.many + 1)] G1 fun x_4 G1 =>
   zbx Z [T.int (c + 2),T.int S.many,x_4] G1 fun x_5 G1 => zaS Z [T.ref r,T.str "ask",x,x_5,T.ref dn] G1 fun x G1 => Q T.non G1) := by
 have hm7 := H.ok.m
 refine ⟨n,r,dn,A,S,0,.begin i l,rfl,H,⟨hin,hl⟩,by omega,by omega,fun G2 A2 S2 H2 M2 => ?_⟩
 refine zaj (H2.er ▸ H2.R.at' .r trivial) rfl ?_
 have g2 := M2.gr
 have e2 : S2 = S.begin i l := by
  cases M2.ex with
  | cons f r => cases r; rfl
 refine ⟨A2,S2,i,by rw [H2.er],H2.R,by rw [g2.w]; exact hin,?_⟩
 obtain ⟨b,hb⟩ : ∃ b,(S2.askers i).ballot = some b := ⟨(S.askers i).due i S.wishes.length l,by rw [e2]; simp [P.R.begin,P.R.setA,P.R.write,M.upd,P.As.begin]⟩
 rw [hb]
 have nodn : ∀ {G : Gp} {A : Adr} {S : P.R} {k n : Nat} {q : Addr},Hs Z n dn r G A S k -> G q = none -> q ≠ dn := fun H hq => by
  obtain ⟨ds,e,_⟩ := H.dl
  exact Ne.symm (neG e hq)
 refine ⟨c + 1,S.many,sz,rfl,hsz,by omega,fun G3 l3 x3 hl3 hv3 => ?_⟩
 refine ⟨n + 1,r,dn,l3,A2,S2,1,"prepare",b,someL (c + 1) S.many sz,rfl,H2.ext x3,by omega,by omega,ok1,hv3,nodn H2 hl3,H2.R.free hl3,fun v hv => by rw [g2.m]; exact someL_lt hsz v hv,by rw [someL_len hsz]; omega,fun G4 A4 S4 as4 H4 M4 => ?_⟩
 have g4 := g2.trans M4.gr
 intro p hp
 refine ⟨n + 1,r,dn,p,A4,S4,_,"promise",b,[0],rfl,H4.ext (Ext.new hp),by omega,by omega,ok2,zaa,nodn H4 hp,H4.R.free hp,fun v hv => by rw [g4.m]; have := List.mem_singleton.mp hv; omega,by decide,fun G5 A5 S5 as5 H5 M5 => ?_⟩
 have g5 := g4.trans M5.gr
 refine ⟨c,9907,_,rfl,by decide,by omega,?_⟩
 have hz := zbM c 9907 (S.many + 1) (by omega)
 obtain ⟨z,hzz⟩ := Int.eq_ofNat_of_zero_le hz.1
 rw [hzz]
 have hzm : z <= S.many := by omega
 refine ⟨c + 2,S.many,z,rfl,hzm,by omega,fun G6 l6 x6 hl6 hv6 => ?_⟩
 refine ⟨n + 1,r,dn,l6,A5,S5,_,"ask",b,someL (c + 2) S.many z,rfl,H5.ext x6,by omega,by omega,ok3',hv6,nodn H5 hl6,H5.R.free hl6,fun v hv => by rw [g5.m]; exact someL_lt hzm v hv,by rw [someL_len hzm]; omega,fun G7 A7 S7 as7 H7 M7 => ?_⟩
 exact h _ _ _ _ (H7.more (by omega)) (M2.trans ((Mv.ext x3).trans (M4.trans ((Mv.ext (Ext.new hp)).trans (M5.trans ((Mv.ext x6).trans M7))))))
def balsT (t : Int) (L : List M.Let) : List Int := L.map fun x => x.bal + 1 - 3 * (if t = 2 then 1 else 0)
def balT (tt : Int) : T -> T
 | .tup (_ :: .int b :: _) => .int (b + 1 - 3 * (if tt = 2 then 1 else 0))
 | _ => .non
theorem balT_let (tt : Int) (x : M.Let) : balT tt (zbV x) = .int (x.bal + 1 - 3 * (if tt = 2 then 1 else 0)) := by cases x <;> rfl
theorem balT_map (tt : Int) (L : List M.Let) : (L.map zbV).map (balT tt) = (balsT tt L).map T.int := by
 unfold balsT; rw [List.map_map,List.map_map]
 exact List.map_congr_left fun x _ => balT_let tt x
def sp__law_play (Z : Cz) : Sp3 := fun ts G Q => ∃ (n : Nat) (r dn : Addr) (A : Adr) (S : P.R) (c : Int),ts = [.ref r,.int c,.int S.wishes.length,.int S.many,.ref dn] /\ Hs Z n dn r G A S 0 /\ n <= 900 /\ 1 <= S.many /\
 ∀ G' A' S' as,Hs Z (n + 1) dn r G' A' S' 400000 -> Mv dn as G A S G' A' S' -> Q .non G'
abbrev za6 : Stmt := top 36
theorem zat : FnScope ["_law_room","_law_cell_here","_law_askers","_law_many_here","_law_done","_law_letters","_law_asker","_law_turn","_law_k","_law_voter","_law_least","_law_size","_law_ballot"] ["_law_room","_law_cell_here","_law_askers","_law_many_here","_law_done"] (zab za6) := ⟨rfl,rfl,rfl,by decide +kernel,rfl,by decide +kernel,by decide +kernel⟩
theorem ok__law_play {f : Addr} {fd : FuncData} (F : Fun K "_law_play" "_law_play" za6 f fd) (aT : At K Z) (b_int : mg "int" = none) (b_len : mg "len" = none) (b_max : mg "max" = none) (F__law_bring : zbS Pg w K mg base 7 "_law_bring" ["_law_room","_law_kind","_law_ballot","_law_voters","_law_done"] (zaS Z)) (F__law_do : zbS Pg w K mg base 6 "_law_do" ["_law_room","_law_act","_law_done"] (zb6 Z)) (F__law_mix : zbS Pg w K mg base 1 "_law_mix" ["_law_cell_here","_law_prime","_law_many_here"] (za4 Z)) (F__law_some : zbS Pg w K mg base 2 "_law_some" ["_law_cell_here","_law_many_here","_law_size"] (zbx Z)) (M_Room_ballot_of : zbD Pg w K mg base 2 Z.R "ballot_of" ["self","asker"] (zaU Z)) (M_Room_letters : zbD Pg w K mg base 2 Z.R "letters" ["self"] (zbg Z)) : FOk Pg w K mg base 8 f fd ["_law_room","_law_cell_here","_law_askers","_law_many_here","_law_done"] (sp__law_play Z) := by
 refine ok3 F zat (fun ts G Q h => ?_) (fun cdv A outer s H E hr => ?_)
 ·obtain ⟨n,r,dn,A,S,c,rfl,_⟩ := h; rfl
 ·refine ⟨_,(qss (qset 5 zat.nd (cmeth0 (qv 0) (M_Room_letters.mono (by decide : 2 <= 7)) hr))
   (qss (qset 6 zat.nd (zaP (F__law_mix.mono (by decide : 1 <= 7)) hr (qa (qv 1) (qa zaD (qa (qv 2) qa0)))))
   (qss (qset 7 zat.nd (zaP (F__law_mix.mono (by decide : 1 <= 7)) hr (qa (qv 1) (qa zaD (qa zaD qa0)))))
   (zaL (qifs (qteq hr (qv 7) zaD) (zaL (qexpr (zaP (F__law_do.mono (by decide : 6 <= 7)) hr (qa (qv 0) (qa (qtup (qa qstr (qa (qv 6) qa0))) (qa (qv 4) qa0)))))) (zaL (qifs (PW.pt (qwand (qteq hr (qv 7) zaD) (qw1a (qtru (qv 5))))) (qss (qset 8 zat.nd (zaP (F__law_mix.mono (by decide : 1 <= 7)) hr (qa (qv 1) (qa zaD (qa (qlenA b_len (qa (qv 5) qa0)) qa0)))))
   (zaL (qfor (qi_seq (zaP (F__law_some.mono (by decide : 2 <= 7)) hr (qa (qv 1) (qa (qv 3) (qa (zaP (F__law_mix.mono (by decide : 1 <= 7)) hr (qa (qv 1) (qa zaD (qa (qadd (qv 3) zaD) qa0)))) qa0))))) (zbz 9 zat.nd) (zaL (qexpr (zaP (F__law_do.mono (by decide : 6 <= 7)) hr (qa (qv 0) (qa (qtup (qa qstr (qa (qv 8) (qa (qv 9) qa0)))) (qa (qv 4) qa0))))))))) (qss (qset 10 zat.nd (qmaxL hr b_max (qa (qcat (qlst (qa zaD qa0)) (qcomp ["_law_letter","_law_turn"] [none,some 7] (blkOk (oN := ["_law_room","_law_cell_here","_law_askers","_law_many_here","_law_done","_law_letters","_law_asker","_law_turn","_law_k","_law_voter","_law_least","_law_size","_law_ballot"]) (osc := zab za6) rfl rfl (by decide +kernel)) (qi_seq (qv 5)) (fun _ _ _ _ => (zbz 0 (show List.Nodup (["_law_letter","_law_turn"] : List Str) by decide +kernel))) (fun _ _ _ _ => qifs0) (fun _ _ _ _ => (qsub (qadd (zce hr (qv 0) zaD) zaD) (qmul zaD (qint1 b_int (qa (qeq hr (qv 1) zaD) qa0))))))) qa0)))
   (qss (qset 11 zat.nd (qadd (qfdiv (qv 3) zaD) zaD))
   (qss (qifs (qteq hr (qv 7) zaD) (zaL (qset 11 zat.nd (zaP (F__law_mix.mono (by decide : 1 <= 7)) hr (qa (qv 1) (qa zaD (qa (qadd (qv 3) zaD) qa0)))))) zaw)
   (qss (qexpr (zaP (F__law_do.mono (by decide : 6 <= 7)) hr (qa (qv 0) (qa (qtup (qa qstr (qa (qv 6) (qa (qv 10) qa0)))) (qa (qv 4) qa0)))))
   (qss (qset 12 zat.nd (cmeth (qv 0) (M_Room_ballot_of.mono (by decide : 2 <= 7)) hr (qa (qv 6) qa0)))
   (qss (qexpr (zaP F__law_bring hr (qa (qv 0) (qa qstr (qa (qv 12) (qa (zaP (F__law_some.mono (by decide : 2 <= 7)) hr (qa (qadd (qv 1) zaD) (qa (qv 3) (qa (qv 11) qa0)))) (qa (qv 4) qa0)))))))
   (qss (qexpr (zaP F__law_bring hr (qa (qv 0) (qa qstr (qa (qv 12) (qa (qlst (qa zaD qa0)) (qa (qv 4) qa0)))))))
   (zaL (qexpr (zaP F__law_bring hr (qa (qv 0) (qa qstr (qa (qv 12) (qa (zaP (F__law_some.mono (by decide : 2 <= 7)) hr (qa (qadd (qv 1) zaD) (qa (qv 3) (qa (zaP (F__law_mix.mono (by decide : 1 <= 7)) hr (qa (qv 1) (qa zaD (qa (qadd (qv 3) zaD) qa0)))) qa0)))) (qa (qv 4) qa0)))))))))))))))))))))),fun ts G Q h => ?_⟩
  obtain ⟨n,r,dn,A,S,c,rfl,H,hn,hm,h⟩ := h
  have n0 := H.ok.good.n0
  have hm7 := H.ok.m
  have hln := H.ok.ln
  have ha := zbM c 9941 S.wishes.length (by omega)
  obtain ⟨i,hi⟩ := Int.eq_ofNat_of_zero_le ha.1
  have hin : i < S.wishes.length := by omega
  simp_arith []
  refine zaj (H.er ▸ H.R.at' .r trivial) rfl ?_
  refine ⟨A,S,by rw [H.er],H.R,?_⟩
  refine ⟨c,9941,_,rfl,by decide,by omega,?_⟩
  rw [hi]
  refine ⟨c,9949,9,rfl,by decide,by decide,?_⟩
  generalize ht : mix c 9949 9 = t
  simp only [wD,toD,eqvI]
  by_cases t0 : t = 0
  ·simp [t0]
   refine ⟨n,r,dn,A,S,0,.fall i,rfl,H,hin,by omega,by omega,fun G' A' S' H' M' => ?_⟩
   exact h _ _ _ _ ((H'.up (by simp [Ac.cost])).more (by omega)) M'
  ·simp [t0]
   by_cases t1 : t = 1 /\ S.letters ≠ []
   ·obtain ⟨t1,L0⟩ := t1
    subst t1
    have hlp : 0 < S.letters.length := List.length_pos_iff.mpr L0
    simp [L0]
    refine ⟨c,9931,_,rfl,by decide,by omega,?_⟩
    have hk := zbM c 9931 S.letters.length (by omega)
    obtain ⟨kk,hkk⟩ := Int.eq_ofNat_of_zero_le hk.1
    rw [hkk]
    have hkl : kk < S.letters.length := by omega
    have hz := zbM c 9929 (S.many + 1) (by omega)
    obtain ⟨sz,hsz⟩ := Int.eq_ofNat_of_zero_le hz.1
    simp_arith [wFor]
    refine ⟨c,9929,_,rfl,by decide,by omega,?_⟩
    rw [hsz]
    have hszm : sz <= S.many := by omega
    refine ⟨c,S.many,sz,rfl,hszm,by omega,fun G3 l3 x3 hl3 hv3 => ?_⟩
    have hvl := someL_len (c := c) hszm
    have n3 : l3 ≠ dn := by
     obtain ⟨ds,e,_⟩ := H.dl
     exact Ne.symm (neG e hl3)
    have o3 := H.R.free hl3
    simp only [hv3]
    refine forL_inv (J := fun q τ G2 => ∃ j A2 S2 bs o9,q = (vsI (someL c S.many sz)).drop j /\ j <= sz /\ τ = [some (.ref r),some (.int c),some (.int S.wishes.length),some (.int S.many),some (.ref dn),some (.tup (S.letters.map zbV)),some (.int i),some (.int 1),some (.int kk),o9,none,none,none] /\ Hs Z n dn r G2 A2 S2 j /\ Mv dn bs G A S G2 A2 S2 /\ G2 l3 = some (.lst (vsI (someL c S.many sz))) /\ ¬ own A2 S2 l3)
     (fun q τ G2 j => ?_) (fun τ G2 j => ?_) (fun x q τ G2 N hN j => ?_) _ _ _ ⟨0,A,S,[],_,rfl,by omega,rfl,H.ext x3,Mv.ext x3,hv3,o3⟩
    ·obtain ⟨j,A2,S2,bs,o9,er,hj,rfl,H2,M2,v2,o2⟩ := j
     exact v2
    ·obtain ⟨j,A2,S2,bs,o9,er,hj,rfl,H2,M2,v2,o2⟩ := j
     exact h _ _ _ _ ((H2.up (by omega)).more (by omega)) M2
    ·obtain ⟨j,A2,S2,bs,o9,er,hj,rfl,H2,M2,v2,o2⟩ := j
     have hjl : j < (someL c S.many sz).length := by
      have := congrArg List.length er
      simp at this
      omega
     have e2 : (vsI (someL c S.many sz)).drop j = .int ((someL c S.many sz)[j] : Int) :: (vsI (someL c S.many sz)).drop (j + 1) := by rw [List.drop_eq_getElem_cons (by simpa using hjl)]; simp
     rw [e2] at er
     cases er
     simp_arith []
     have hk2 : kk < S2.letters.length := Nat.lt_of_lt_of_le hkl M2.gr.l.length_le
     refine ⟨n,r,dn,A2,S2,_,.bring kk (someL c S.many sz)[j],rfl,H2,⟨hk2,by rw [M2.gr.m]; exact someL_lt hszm _ (List.getElem_mem hjl)⟩,by omega,by omega,fun G4 A4 S4 H4 M4 => ?_⟩
     have f4 := M4.fr l3 _ n3 o2 v2
     exact hN _ _ ⟨j + 1,A4,S4,_,_,rfl,by omega,rfl,H4,M2.trans M4,f4.1,f4.2⟩
   ·have e1 : ∀ X Y : Prop,Y -> (if t = 1 then if S.letters = [] then Y else X else Y) := fun X Y y => by
     by_cases c1 : t = 1
     ·rw [if_pos c1]
      have : S.letters = [] := by
       by_cases c2 : S.letters = []
       ·exact c2
       ·exact absurd ⟨c1,c2⟩ t1
      rw [if_pos this]; exact y
     ·rw [if_neg c1]; exact y
    refine e1 _ _ fun p1 hp1 => ⟨by omega,?_⟩
    refine zbO (balT t) trivial _ (fun x hx R r => ?_) ?_
    ·obtain ⟨y,hy,rfl⟩ := List.mem_map.mp hx
     rw [balT_let] at r
     simp_arith [letT_eq]
     refine zak (i := 1) (letTs_1 y) ?_
     simp only [wD,toD,eqvI,int3]
     by_cases c2 : t = 2
     ·simp [c2] at r ⊢
      exact ⟨.inl ⟨by decide,by decide⟩,r⟩
     ·simp [c2] at r ⊢
      exact ⟨.inl ⟨by decide,by decide⟩,r⟩
    ·rw [balT_map]
     intro p2 hp2
     have n21 : p2 ≠ p1 := by rintro rfl; rw [zaa] at hp2; cases hp2
     rw [zac n21] at hp2
     have gg1 : updG (updG G p1 (.lst [T.int 0])) p2 (.lst ((balsT t S.letters).map T.int)) p1 = some (.lst [T.int 0]) := by rw [zac (Ne.symm n21)]; exact zaa
     have gg2 : updG (updG G p1 (.lst [T.int 0])) p2 (.lst ((balsT t S.letters).map T.int)) p2 = some (.lst ((balsT t S.letters).map T.int)) := zaa
     have x2 : Ext G (updG (updG G p1 (.lst [T.int 0])) p2 (.lst ((balsT t S.letters).map T.int))) := (Ext.new hp1).trans (Ext.new (by rw [zac n21]; exact hp2))
     generalize updG (updG G p1 (.lst [T.int 0])) p2 (.lst ((balsT t S.letters).map T.int)) = G2 at *
     simp only [cat3,gg1,gg2]
     refine ⟨by simp [balsT]; omega,fun p3 hp3 => ?_⟩
     have x3 := x2.trans (Ext.new (o := .lst ([T.int 0] ++ (balsT t S.letters).map T.int)) hp3)
     simp only [mxL3,zaa]
     refine .inr ⟨0,balsT t S.letters,rfl,?_⟩
     have hl0 : 0 <= bestL (fun a b => decide (a < b)) 0 (balsT t S.letters) := bestL_ge (fun a b hab => by have := of_decide_eq_true hab; omega) _ _
     have ex : ∃ ds,G dn = some (.lst ds) := by
      obtain ⟨ds,e,_⟩ := H.dl
      exact ⟨ds,e⟩
     have H3 := H.ext x3
     refine ⟨⟨by decide,by decide⟩,?_⟩
     by_cases t3 : t = 3
     ·rw [if_pos t3]
      refine ⟨c,9923,_,rfl,by decide,by omega,?_⟩
      have hz := zbM c 9923 (S.many + 1) (by omega)
      obtain ⟨sz,hsz⟩ := Int.eq_ofNat_of_zero_le hz.1
      rw [hsz]
      exact play_tail H3 hn hm hin hl0 (by omega) fun G' A' S' as H' M' => h _ _ _ _ H' ((Mv.ext x3).trans M')
     ·rw [if_neg t3]
      have e : (S.many : Int) / 2 + 1 = ((S.many / 2 + 1 : Nat) : Int) := by omega
      rw [e]
      exact play_tail H3 hn hm hin hl0 (by omega) fun G' A' S' as H' M' => h _ _ _ _ H' ((Mv.ext x3).trans M')
def zbW (Z : Cz) : Sp3 := fun ts G Q => ∃ qs : List (Int × Int),ts = [.tup (qs.map pT)] /\ Q (oI (wishO qs)) G
abbrev zaW : Stmt := top 19
theorem sc_chosen_wish : FnScope ["pairs"] ["pairs"] (zab zaW) := ⟨rfl,rfl,rfl,by decide +kernel,rfl,by decide +kernel,by decide +kernel⟩
theorem ok_chosen_wish {f : Addr} {fd : FuncData} (F : Fun K "chosen_wish" "chosen_wish" zaW f fd) (aT : At K Z) (b_len : mg "len" = none) : FOk Pg w K mg base 1 f fd ["pairs"] (zbW Z) := by
 refine ok3 F sc_chosen_wish (fun ts G Q h => ?_) (fun cdv A outer s H E hr => ?_)
 ·obtain ⟨qs,rfl,_⟩ := h; rfl
 ·refine ⟨_,(qss (qifs (qteq hr (qlenA b_len (qa (qv 0) qa0)) zaD) (zaL (zbZ qnon)) zaw)
   (zaL (zbZ (zce hr (zce hr (qv 0) zaD) zaD)))),fun ts G Q h => ?_⟩
  obtain ⟨qs,rfl,h⟩ := h
  cases qs with
  | nil =>
   simp_arith [wD,toD,eqvI]
   exact h
  | cons q r =>
   have e : ¬ ((r.length : Int) + 1 = 0) := by omega
   simp_arith [wD,toD,eqvI,e]
   refine zak (i := 0) rfl ?_
   exact zak (i := 1) rfl h
def zbw (Z : Cz) : Sp3 := fun ts G Q => ∃ A S n,ts = [.ref (A .r)] /\ RoomAt Z G A S /\ P.Ok n S /\ n < 64 /\ ∀ G',Ext G G' -> Q (oI (wishO (zbf (P.won S.letters S.many)))) G'
abbrev zaY : Stmt := zas (top 27) 11
theorem sc_Room_choice : FnScope ["self"] ["self"] (zab zaY) := ⟨rfl,rfl,rfl,by decide +kernel,rfl,by decide +kernel,by decide +kernel⟩
theorem ok_Room_choice {f : Addr} {fd : FuncData} (F : Fun K "choice" "Room.choice" zaY f fd) (aT : At K Z) (F_chosen_wish : zbS Pg w K mg base 1 "chosen_wish" ["pairs"] (zbW Z)) (M_Room_chosen : zbD Pg w K mg base 3 Z.R "chosen" ["self"] (zbv Z)) : FOk Pg w K mg base 4 f fd ["self"] (zbw Z) := by
 refine ok3 F sc_Room_choice (fun ts G Q h => ?_) (fun cdv A outer s H E hr => ?_)
 ·obtain ⟨A,S,n,rfl,_⟩ := h; rfl
 ·refine ⟨_,(zaL (zbZ (zaP (F_chosen_wish.mono (by decide : 1 <= 3)) hr (qa (cmeth0 (qv 0) M_Room_chosen hr) qa0)))),fun ts G Q h => ?_⟩
  obtain ⟨A,S,n,rfl,R,okS,hn,h⟩ := h
  simp! []
  refine zaj (R.at' .r trivial) rfl ?_
  exact ⟨A,S,n,rfl,R,okS,hn,fun G' x => ⟨_,rfl,h G' x⟩⟩
theorem chosen_valid {S : P.R} (g : P.Good S) {b w : Int} (h : P.Chosen S b w) : w ∈ S.wishes := by
 obtain ⟨D,s,I⟩ := g
 rw [s.w]
 exact M.valid I (M.Chosen.ask I ((P.chosen_iff s I).mp h))
theorem sortP_idem {qs : List (Int × Int)} (nd : qs.Nodup) : zbf (zbf qs) = zbf qs := (sortP_eq (.refl _) (sortP_lt nd)).symm
theorem toD_pairL {G : Gp} {a : Addr} {qs : List (Int × Int)} (h : G a = some (.lst (qs.map pT))) : toD G 20 (.ref a) = some (.list (qs.map fun q => .tuple [.int q.1,.int q.2])) := toD_lst (g := pT) (k := fun q => PyData.tuple [.int q.1,.int q.2]) 19 h fun x => by simp [toD,pT,allD]
theorem in_pairs {G : Gp} {q : Int × Int} {qs : List (Int × Int)} (h : q ∈ qs) : inSeq (pT q) (.tup (qs.map pT)) G = some true := by
 have a1 : toD G 20 (pT q) = some (PyData.tuple [.int q.1,.int q.2]) := by simp [pT,toD,allD]
 have a2 : allD (toD G 20) (qs.map pT) = some (qs.map fun q => PyData.tuple [.int q.1,.int q.2]) := allD_map (g := pT) (k := fun q => PyData.tuple [.int q.1,.int q.2]) (fun x => by simp [pT,toD,allD]) qs
 simp only [inSeq,zbm,a1,a2,Option.map_some]
 have e : ((qs.map fun q => PyData.tuple [.int q.1,.int q.2]).any fun z => z.eqv (PyData.tuple [.int q.1,.int q.2])) = true := List.any_eq_true.mpr ⟨_,List.mem_map_of_mem h,toD_refl (G := G) 20 (pT q) _ a1⟩
 rw [e]
theorem all3_at {d : Addr} {G : Gp} {Q : VK3} {α : Type} (l : List α) (h : G d = some (.lst (l.map fun _ => T.bl true))) (q : Q (.bl true) G) : all3 [.ref d] G Q := by
 refine ⟨l.map fun _ => true,by rw [h,List.map_map]; rfl,?_⟩
 rw [show (l.map fun _ => true).all id = true by simp]
 exact q
theorem all_true {α : Type} (l : List α) : (l.map fun _ => T.bl true) = (l.map fun _ => true).map T.bl := by rw [List.map_map]; rfl
theorem all_true' {α : Type} (l : List α) : (l.map fun _ => true).all id = true := by simp
def sp_law (Z : Cz) : Sp3 := spLaw
abbrev s_law : Stmt := top 37
theorem sc_law : FnScope ["_law_script","_law_wishes_here","_law_many_here","_law_room","_law_before","_law_k","_law_found"] ["_law_script"] (zab s_law) := ⟨rfl,rfl,rfl,by decide +kernel,rfl,by decide +kernel,by decide +kernel⟩
theorem ok_law {f : Addr} {fd : FuncData} (F : Fun K "law" "law" s_law f fd) (aT : At K Z) (b_all : mg "all" = none) (b_isinstance : mg "isinstance" = none) (b_len : mg "len" = none) (b_list : mg "list" = none) (b_range : mg "range" = none) (b_set : mg "set" = none) (b_sorted : mg "sorted" = none) (b_tuple : mg "tuple" = none) (F__law_cell : zbS Pg w K mg base 1 "_law_cell" ["_law_script","_law_k"] (zby Z)) (F__law_many : zbS Pg w K mg base 2 "_law_many" ["_law_script"] (sp__law_many Z)) (F__law_play : zbS Pg w K mg base 8 "_law_play" ["_law_room","_law_cell_here","_law_askers","_law_many_here","_law_done"] (sp__law_play Z)) (F__law_wishes : zbS Pg w K mg base 2 "_law_wishes" ["_law_script"] (zbX Z)) (M_Room_choice : zbD Pg w K mg base 4 Z.R "choice" ["self"] (zbw Z)) (M_Room_chosen : zbD Pg w K mg base 3 Z.R "chosen" ["self"] (zbv Z)) (N_Room : MkAt Pg w K mg base 3 "Room" Z.R ["self","wishes","many"] (zbB Z)) : FOk Pg w K mg base 9 f fd ["_law_script"] (sp_law Z) := by
 refine ok3 F sc_law (fun ts G Q h => ?_) (fun cdv A outer s H E hr => ?_)
 ·obtain ⟨ns,rfl,_⟩ := h; rfl
 ·refine ⟨_,(qss (qset 1 sc_law.nd (zaP (F__law_wishes.mono (by decide : 2 <= 8)) hr (qa (qv 0) qa0)))
   (qss (qset 2 sc_law.nd (zaP (F__law_many.mono (by decide : 2 <= 8)) hr (qa (qv 0) qa0)))
   (qss (qset 3 sc_law.nd (cmake (N_Room.mono (by decide : 3 <= 7)) hr (qa (qv 1) (qa (qv 2) qa0))))
   (qss (qset 4 sc_law.nd (qtup qa0))
   (qss (qfor (qi_r1 b_range (qa zaD qa0)) (zbz 5 sc_law.nd) (qss (qexpr (zaP F__law_play hr (qa (qv 3) (qa (qadd (zaP (F__law_cell.mono (by decide : 1 <= 8)) hr (qa (qv 0) (qa (qadd zaD (qmod (qv 5) zaD)) qa0))) (qmul zaD (qv 5))) (qa (qlenA b_len (qa (qv 1) qa0)) (qa (qv 2) (qa (qlst qa0) qa0)))))))
   (qss (qset 6 sc_law.nd (cmeth0 (qv 3) (M_Room_chosen.mono (by decide : 3 <= 8)) hr))
   (qss (qifs (PW.pt (qwor (qtnot (qtru (qisi_tuple b_isinstance b_tuple (qv 6)))) (qw1o (qtne hr (qlist b_list (qa (qv 6) qa0)) (qsortpair hr b_sorted b_set (qv 6)))))) (zaL (zbZ qbl)) zaw)
   (qss (qifs (PW.pt (qwor (qtnot (qtru (qall b_all (qa (qcomp ["_law_pair","_law_found"] [none,some 6] (blkOk (oN := ["_law_script","_law_wishes_here","_law_many_here","_law_room","_law_before","_law_k","_law_found"]) (osc := zab s_law) rfl rfl (by decide +kernel)) (qi_seq (qv 4)) (fun _ _ _ _ => (zbz 0 (show List.Nodup (["_law_pair","_law_found"] : List Str) by decide +kernel))) (fun _ _ _ _ => qifs0) (fun _ _ _ _ => (qin hr (qv 0) (qv 1)))) qa0)))) (qw1o (qtnot (qtru (qall b_all (qa (qcomp ["_law_pair","_law_found"] [none,some 6] (blkOk (oN := ["_law_script","_law_wishes_here","_law_many_here","_law_room","_law_before","_law_k","_law_found"]) (osc := zab s_law) rfl rfl (by decide +kernel)) (qi_seq (qv 6)) (fun _ _ _ _ => (zbz 0 (show List.Nodup (["_law_pair","_law_found"] : List Str) by decide +kernel))) (fun _ _ _ _ => qifs0) (fun _ _ _ _ => (qeq hr (zce hr (qv 0) zaD) (zce hr (zce hr (qv 1) zaD) zaD)))) qa0))))))) (zaL (zbZ qbl)) zaw)
   (qss (qifs (PW.pt (qwor (PW.pt (qwand (qtnot (qtru (qv 6))) (qw1a (qtnotN (cmeth0 (qv 3) (M_Room_choice.mono (by decide : 4 <= 8)) hr) qnon)))) (qw1o (PW.pt (qwand (qtru (qv 6)) (qw1a (qtne hr (cmeth0 (qv 3) (M_Room_choice.mono (by decide : 4 <= 8)) hr) (zce hr (zce hr (qv 6) zaD) zaD)))))))) (zaL (zbZ qbl)) zaw)
   (qss (qifs (qtnot (qtru (qall b_all (qa (qcomp ["_law_pair","_law_wishes_here"] [none,some 1] (blkOk (oN := ["_law_script","_law_wishes_here","_law_many_here","_law_room","_law_before","_law_k","_law_found"]) (osc := zab s_law) rfl rfl (by decide +kernel)) (qi_seq (qv 6)) (fun _ _ _ _ => (zbz 0 (show List.Nodup (["_law_pair","_law_wishes_here"] : List Str) by decide +kernel))) (fun _ _ _ _ => qifs0) (fun _ _ _ _ => (qin hr (zce hr (qv 0) zaD) (qv 1)))) qa0)))) (zaL (zbZ qbl)) zaw)
   (zaL (qset 4 sc_law.nd (qv 6))))))))))
   (zaL (zbZ qbl))))))),fun ts G Q h => ?_⟩
  obtain ⟨ns,rfl,hlen,hG,h⟩ := h
  have hwl := wishL_len ns
  have hmn := (many_at ns).2
  simp_all_arith []
  refine ⟨ns,rfl,fun G1 x1 => ?_⟩
  refine ⟨ns,rfl,?_⟩
  intro r hr'
  refine ⟨r,wishL ns,manyOf ns,rfl,zaa,by omega,by omega,fun A G3 er R F => ?_⟩
  simp only [wFor,iR1,za3,wC,wNil]
  refine ⟨⟨by decide,by decide⟩,?_⟩
  refine forL_inv (J := fun q τ G4 => ∃ j A4 S4 bf o5 o6,q = (rngT 0 12).drop j /\ j <= 12 /\ τ = [some (.fro (ns.map T.int)),some (.tup ((wishL ns).map T.int)),some (.int (manyOf ns)),some (.ref r),some (.tup (bf.map pT)),o5,o6] /\ RoomAt Z G4 A4 S4 /\ A4 .r = r /\ P.Ok j S4 /\ S4.wishes = wishL ns /\ S4.many = manyOf ns /\ bf.length <= 12 /\ ∀ q ∈ bf,P.Chosen S4 q.1 q.2)
   (fun _ _ _ _ => trivial) (fun τ G4 j => ?_) (fun x q τ G4 N hN j => ?_) _ _ _ ⟨0,A,P.new (wishL ns) (manyOf ns),[],_,_,rfl,by omega,rfl,R,er,P.Ok.new hwl.1 hmn.2,rfl,rfl,by simp,fun q hq => by cases hq⟩
  ·obtain ⟨j,A4,S4,bf,o5,o6,_,hj,rfl,R4,er4,okS,ew,em,hbl,hbf⟩ := j
   exact h _
  ·obtain ⟨j,A4,S4,bf,o5,o6,eq,hj,rfl,R4,er4,okS,ew,em,hbl,hbf⟩ := j
   have hj12 : j < 12 := by
    have := congrArg List.length eq
    simp [rngT] at this
    omega
   have ed := rng_drop (m := 12) hj12
   rw [show (((12 : Nat) : Int)) = 12 from rfl] at ed
   rw [ed] at eq
   cases eq
   simp_all_arith []
   have ec : (2 + (j : Int) % 10) = ((2 + j % 10 : Nat) : Int) := by omega
   rw [ec]
   refine ⟨ns,2 + j % 10,rfl,?_⟩
   refine ⟨.inl ⟨by decide,by decide⟩,?_⟩
   dsimp only
   refine lenA_tup ?_
   simp only [List.length_map]
   intro dn hdn
   refine ⟨j,r,dn,A4,S4,_,by rw [ew,em],⟨R4.beside (R4.free hdn),okS,er4,⟨[],zaa,by simp⟩,R4.free hdn⟩,by omega,by omega,fun G5 A5 S5 as H5 M5 => ?_⟩
   have g5 := H5.ok.good
   have ew5 := M5.gr.w.trans ew
   have em5 := M5.gr.m.trans em
   refine zaj (H5.er ▸ H5.R.at' .r trivial) rfl ?_
   refine ⟨A5,S5,j + 1,by rw [H5.er],H5.R,H5.ok,by omega,fun G6 x6 => ?_⟩
   have R6 := H5.R.ext x6
   have nd0 := P.won_nodup S5.letters S5.many
   have hfl : (zbf (P.won S5.letters S5.many)).length <= j + 1 := by rw [(zbI _).length_eq]; exact P.won_few H5.ok
   have hch : ∀ q ∈ zbf (P.won S5.letters S5.many),P.Chosen S5 q.1 q.2 := fun q hq => P.mem_won.mp (mem_sortP.mp hq)
   have hall : ∀ q : Int × Int,P.Chosen S5 q.1 q.2 -> q ∈ zbf (P.won S5.letters S5.many) := fun q hq => mem_sortP.mpr (P.mem_won.mpr hq)
   have nd : (zbf (P.won S5.letters S5.many)).Nodup := (zbI _).nodup_iff.mpr nd0
   have hso := sortP_idem nd0
   have hwi : ∀ G',Ext G6 G' -> ∀ Q' : VK3,(∀ G'',Ext G' G'' -> Q' (oI (wishO (zbf (P.won S5.letters S5.many)))) G'') -> zbw Z [.ref r] G' Q' := fun G' x' Q' k => ⟨A5,S5,j + 1,by rw [H5.er],R6.ext x',H5.ok,by omega,k⟩
   generalize hfs : zbf (P.won S5.letters S5.many) = fs at hfl hch hall nd hso hwi ⊢
   simp only [truT_bl,if_true]
   refine lst3_at rfl fun p1 hp1 => ?_
   simp only [wSt2,wVar,List.getElem?_cons_succ,List.getElem?_cons_zero]
   refine ⟨fs,rfl,nd,by omega,fun p2 hp2 => ?_⟩
   rw [hso]
   have y1 := Ext.new (o := .lst (fs.map pT)) hp1
   have y2 := Ext.new (o := .lst (fs.map pT)) hp2
   refine ne_same (toD_pairL (y2 _ _ zaa)) (toD_pairL zaa) ?_
   simp only [Bool.false_eq_true,if_false]
   have x7 := y1.trans y2
   generalize updG (updG G6 p1 (.lst (fs.map pT))) p2 (.lst (fs.map pT)) = G7 at x7
   clear y1 y2
   refine ⟨by omega,?_⟩
   refine zbO (fun _ => T.bl true) trivial _ (fun x hx R' rr => ?_) ?_
   ·obtain ⟨q,hq,rfl⟩ := List.mem_map.mp hx
    simp_all_arith []
    have hin : inSeq (pT q) (.tup (fs.map pT)) G7 = some true := in_pairs (hall q (chosen_grow M5.gr (hbf q hq)))
    simp only [wInA,hin,id]
    exact rr
   ·intro d1 hd1
    rw [List.map_map]
    refine all3_at bf zaa ?_
    have z1 := x7.trans (Ext.new (o := .lst (bf.map ((fun _ => T.bl true) ∘ pT))) hd1)
    generalize updG G7 d1 (.lst (bf.map ((fun _ => T.bl true) ∘ pT))) = G8 at z1
    simp only [truT_bl,if_true]
    cases fs with
    | nil =>
     refine ⟨by simp,?_⟩
     refine zbO (fun _ => T.bl true) trivial _ (fun x hx R' rr => by simp at hx) ?_
     intro d2 hd2
     refine all3_at ([] : List Nat) (by rw [zaa]; rfl) ?_
     have z2 := z1.trans (Ext.new (o := .lst ((([] : List (Int × Int)).map pT).map fun _ => T.bl true)) hd2)
     generalize updG G8 d2 (.lst ((([] : List (Int × Int)).map pT).map fun _ => T.bl true)) = G9 at z2
     have ht : ∀ G,truT (T.tup (List.map pT [])) G = some false := fun _ => rfl
     simp only [truT_bl,if_true,ht,Bool.false_eq_true,if_false]
     refine zaj (H5.er ▸ (R6.ext z2).at' .r trivial) rfl ?_
     refine hwi G9 z2 _ fun G10 xch => ?_
     have R8 := R6.ext z2
     simp only [wishO,oI,ht,Bool.false_eq_true,if_false,if_true]
     refine ⟨by simp,?_⟩
     refine zbO (fun _ => T.bl true) trivial _ (fun x hx R' rr => ?_) ?_
     ·obtain ⟨q,hq,rfl⟩ := List.mem_map.mp hx
      simp_all_arith [pT]
      refine zak (i := 1) rfl ?_
      refine wInA_ints (zs := wishL ns) rfl ?_
      have hv := chosen_valid g5 (hch q hq)
      rw [ew5] at hv
      simp only [id,hv,decide_true]
      exact rr
     ·intro d3 hd3
      rw [List.map_map]
      refine all3_at ([] : List (Int × Int)) zaa ?_
      simp only [truT_bl,if_true,Bool.not_true,Bool.false_eq_true,if_false]
      exact hN _ _ ⟨j + 1,A5,S5,([] : List (Int × Int)),_,_,rfl,by omega,rfl,(R8.ext xch).ext (Ext.new hd3),H5.er,H5.ok,ew5,em5,by omega,hch⟩
    | cons q0 fr =>
     refine ⟨by have : fr.length + 1 <= j + 1 := hfl; simp; omega,?_⟩
     refine zbO (fun _ => T.bl true) trivial _ (fun x hx R' rr => ?_) ?_
     ·obtain ⟨q,hq,rfl⟩ := List.mem_map.mp hx
      have eq2 : q.2 = q0.2 := good_one g5 (hch q hq) (hch q0 List.mem_cons_self)
      simp_all_arith [pT]
      refine zak (i := 1) rfl ?_
      refine zak (i := 0) rfl ?_
      refine zak (i := 1) rfl ?_
      simp only [wD,toD,eqvI,eq2,decide_true]
      exact rr
     ·intro d2 hd2
      refine all3_at (q0 :: fr) (by rw [zaa,List.map_map]; rfl) ?_
      have z2 := z1.trans (Ext.new (o := .lst (((q0 :: fr).map pT).map fun _ => T.bl true)) hd2)
      generalize updG G8 d2 (.lst (((q0 :: fr).map pT).map fun _ => T.bl true)) = G9 at z2
      have ht : ∀ G,truT (T.tup (List.map pT (q0 :: fr))) G = some true := fun _ => rfl
      simp only [truT_bl,if_true,ht]
      have R8 := R6.ext z2
      refine zaj (H5.er ▸ R8.at' .r trivial) rfl ?_
      refine hwi G9 z2 _ fun G10 xch => ?_
      simp only [wishO,oI]
      refine zak (i := 0) rfl ?_
      refine zak (i := 1) rfl ?_
      refine ne_same (d := .int q0.2) rfl rfl ?_
      simp only [Bool.false_eq_true,if_false]
      have hfr : fr.length + 1 <= j + 1 := hfl
      refine ⟨by simp; omega,?_⟩
      refine zbO (fun _ => T.bl true) trivial _ (fun x hx R' rr => ?_) ?_
      ·obtain ⟨q,hq,rfl⟩ := List.mem_map.mp hx
       simp_all_arith [pT]
       refine zak (i := 1) rfl ?_
       refine wInA_ints (zs := wishL ns) rfl ?_
       have hv := chosen_valid g5 (hch q hq)
       rw [ew5] at hv
       simp only [id,hv,decide_true]
       exact rr
      ·intro d3 hd3
       rw [List.map_map]
       refine all3_at (q0 :: fr) zaa ?_
       simp only [truT_bl,if_true,Bool.not_true,Bool.false_eq_true,if_false]
       exact hN _ _ ⟨j + 1,A5,S5,(q0 :: fr),_,_,rfl,by omega,rfl,(R8.ext xch).ext (Ext.new hd3),H5.er,H5.ok,ew5,em5,by omega,hch⟩
end
theorem all_mk {l : PySem.W.OpenLaw} {w : World} {K : PySem.W.Frag} {h : Heap} {mg : Str -> Option Value} {fa C_Pile C_Asker C_Voter C_Room : Addr} (X : K.In h) (G : h.Ns mainGlobals mg) (hfa : mg "law" = some (.ref fa))
  {f0 f1 f2 f3 f4 f5 f6 f7 f8 f9 f10 f11 f12 f13 f14 f15 f16 f17 f18 f19 f20 f21 f22 f23 f24 f25 f26 f27 f28 f29 f30 f31 f32 f33 f34 f35 f36 f37 f38 f39 f40 f41 : Addr}
  {d0 e0 d1 e1 d2 e2 d3 e3 d4 e4 d5 e5 d6 e6 d7 e7 d8 e8 d9 e9 d10 e10 d11 e11 d12 e12 d13 e13 d14 e14 d15 e15 d16 e16 d17 e17 d18 e18 d19 e19 d20 e20 d21 e21 d22 e22 d23 e23 d24 e24 d25 e25 d26 e26 d27 e27 d28 e28 d29 e29 d30 e30 d31 e31 d32 e32 d33 e33 d34 e34 d35 e35 d36 e36 d37 e37 d38 e38 d39 e39 d40 e40 d41 e41 : Option Addr}
  {g0 g1 g2 g3 g4 g5 g6 g7 g8 g9 g10 g11 g12 g13 g14 g15 g16 g17 g18 g19 g20 g21 g22 g23 g24 g25 g26 g27 g28 g29 g30 g31 g32 g33 g34 g35 g36 g37 g38 g39 g40 g41 : Array (Option Value)}
  {o0 q0 r0 s0 t0 u0 o1 q1 r1 s1 t1 u1 o2 q2 r2 s2 t2 u2 o3 q3 r3 s3 t3 u3 o4 q4 r4 s4 t4 u4 o5 q5 r5 s5 t5 u5 o6 q6 r6 s6 t6 u6 o7 q7 r7 s7 t7 u7 o8 q8 r8 s8 t8 u8 o9 q9 r9 s9 t9 u9 o10 q10 r10 s10 t10 u10 o11 q11 r11 s11 t11 u11 o12 q12 r12 s12 t12 u12 o13 q13 r13 s13 t13 u13 o14 q14 r14 s14 t14 u14 o15 q15 r15 s15 t15 u15 o16 q16 r16 s16 t16 u16 o17 q17 r17 s17 t17 u17 o18 q18 r18 s18 t18 u18 o19 q19 r19 s19 t19 u19 o20 q20 r20 s20 t20 u20 o21 q21 r21 s21 t21 u21 o22 q22 r22 s22 t22 u22 o23 q23 r23 s23 t23 u23 o24 q24 r24 s24 t24 u24 o25 q25 r25 s25 t25 u25 o26 q26 r26 s26 t26 u26 o27 q27 r27 s27 t27 u27 o28 q28 r28 s28 t28 u28 o29 q29 r29 s29 t29 u29 o30 q30 r30 s30 t30 u30 o31 q31 r31 s31 t31 u31 o32 q32 r32 s32 t32 u32 o33 q33 r33 s33 t33 u33 o34 q34 r34 s34 t34 u34 o35 q35 r35 s35 t35 u35 o36 q36 r36 s36 t36 u36 o37 q37 r37 s37 t37 u37 o38 q38 r38 s38 t38 u38 o39 q39 r39 s39 t39 u39 o40 q40 r40 s40 t40 u40 o41 q41 r41 s41 t41 u41 : Value}
  {t_ASK : Tok}
  {t_PREPARE : Tok}
  {t_PROMISE : Tok}
  {t_VOTE : Tok}
  (CP : PySem.W.nsIn K mainGlobals "Pile" = some (some (.ref C_Pile)))
  (pP : PySem.W.plainGet K C_Pile Str.empty = true)
  (hP : PySem.W.hasDictIn K C_Pile = true)
  (oP : PySem.W.plainOver K C_Pile = true)
  (sP : PySem.W.findIn K (.ref C_Pile) "__setattr__" = some (some (.builtin "object.__setattr__")))
  (mP : PySem.W.makesIn K C_Pile = true)
  (kP : PySem.W.keepIn K (.ref C_Pile) = true)
  (nP0 : PySem.W.findIn K (.ref C_Pile) "row" = some none)
  (nP1 : PySem.W.findIn K (.ref C_Pile) "written" = some none)
  (CA : PySem.W.nsIn K mainGlobals "Asker" = some (some (.ref C_Asker)))
  (pA : PySem.W.plainGet K C_Asker Str.empty = true)
  (hA : PySem.W.hasDictIn K C_Asker = true)
  (oA : PySem.W.plainOver K C_Asker = true)
  (sA : PySem.W.findIn K (.ref C_Asker) "__setattr__" = some (some (.builtin "object.__setattr__")))
  (mA : PySem.W.makesIn K C_Asker = true)
  (kA : PySem.W.keepIn K (.ref C_Asker) = true)
  (nA0 : PySem.W.findIn K (.ref C_Asker) "number" = some none)
  (nA1 : PySem.W.findIn K (.ref C_Asker) "step" = some none)
  (nA2 : PySem.W.findIn K (.ref C_Asker) "wish" = some none)
  (nA3 : PySem.W.findIn K (.ref C_Asker) "many" = some none)
  (nA4 : PySem.W.findIn K (.ref C_Asker) "ballot" = some none)
  (nA5 : PySem.W.findIn K (.ref C_Asker) "fresh" = some none)
  (nA6 : PySem.W.findIn K (.ref C_Asker) "noted" = some none)
  (nA7 : PySem.W.findIn K (.ref C_Asker) "asked" = some none)
  (CV : PySem.W.nsIn K mainGlobals "Voter" = some (some (.ref C_Voter)))
  (pV : PySem.W.plainGet K C_Voter Str.empty = true)
  (hV : PySem.W.hasDictIn K C_Voter = true)
  (oV : PySem.W.plainOver K C_Voter = true)
  (sV : PySem.W.findIn K (.ref C_Voter) "__setattr__" = some (some (.builtin "object.__setattr__")))
  (mV : PySem.W.makesIn K C_Voter = true)
  (kV : PySem.W.keepIn K (.ref C_Voter) = true)
  (nV0 : PySem.W.findIn K (.ref C_Voter) "number" = some none)
  (nV1 : PySem.W.findIn K (.ref C_Voter) "bound" = some none)
  (nV2 : PySem.W.findIn K (.ref C_Voter) "last" = some none)
  (CR : PySem.W.nsIn K mainGlobals "Room" = some (some (.ref C_Room)))
  (pR : PySem.W.plainGet K C_Room Str.empty = true)
  (hR : PySem.W.hasDictIn K C_Room = true)
  (oR : PySem.W.plainOver K C_Room = true)
  (sR : PySem.W.findIn K (.ref C_Room) "__setattr__" = some (some (.builtin "object.__setattr__")))
  (mR : PySem.W.makesIn K C_Room = true)
  (kR : PySem.W.keepIn K (.ref C_Room) = true)
  (nR0 : PySem.W.findIn K (.ref C_Room) "many" = some none)
  (nR1 : PySem.W.findIn K (.ref C_Room) "pile" = some none)
  (nR2 : PySem.W.findIn K (.ref C_Room) "askers" = some none)
  (nR3 : PySem.W.findIn K (.ref C_Room) "voters" = some none)
  (a0 : PySem.W.nsIn K mainGlobals "prepare" = some (some (.ref f0)))
  (l0 : K.lookup f0 = some ⟨o0,d0,.func (PySem.W.fnOf "prepare" "prepare" (zaf zb9) (zae zb9) (zab zb9) .none q0 r0 s0 e0 t0 u0),g0⟩)
  (c0 : PySem.W.codeIn K t0 "prepare" = true)
  (k0 : PySem.W.keepIn K (.ref f0) = true)
  (a1 : PySem.W.findIn K (.ref C_Pile) "__init__" = some (some (.ref f1)))
  (i1 : PySem.W.isFn K (.ref f1) = true)
  (l1 : K.lookup f1 = some ⟨o1,d1,.func (PySem.W.fnOf "__init__" "Pile.__init__" (zaf zaJ) (zae zaJ) (zab zaJ) .none q1 r1 s1 e1 t1 u1),g1⟩)
  (c1 : PySem.W.codeIn K t1 "Pile.__init__" = true)
  (k1 : PySem.W.keepIn K (.ref f1) = true)
  (a2 : PySem.W.findIn K (.ref C_Pile) "write" = some (some (.ref f2)))
  (i2 : PySem.W.isFn K (.ref f2) = true)
  (l2 : K.lookup f2 = some ⟨o2,d2,.func (PySem.W.fnOf "write" "Pile.write" (zaf zbc) (zae zbc) (zab zbc) .none q2 r2 s2 e2 t2 u2),g2⟩)
  (c2 : PySem.W.codeIn K t2 "Pile.write" = true)
  (k2 : PySem.W.keepIn K (.ref f2) = true)
  (a3 : PySem.W.findIn K (.ref C_Pile) "letters" = some (some (.ref f3)))
  (i3 : PySem.W.isFn K (.ref f3) = true)
  (l3 : K.lookup f3 = some ⟨o3,d3,.func (PySem.W.fnOf "letters" "Pile.letters" (zaf zaO) (zae zaO) (zab zaO) .none q3 r3 s3 e3 t3 u3),g3⟩)
  (c3 : PySem.W.codeIn K t3 "Pile.letters" = true)
  (k3 : PySem.W.keepIn K (.ref f3) = true)
  (a4 : PySem.W.nsIn K mainGlobals "own_ballot" = some (some (.ref f4)))
  (l4 : K.lookup f4 = some ⟨o4,d4,.func (PySem.W.fnOf "own_ballot" "own_ballot" (zaf za7) (zae za7) (zab za7) .none q4 r4 s4 e4 t4 u4),g4⟩)
  (c4 : PySem.W.codeIn K t4 "own_ballot" = true)
  (k4 : PySem.W.keepIn K (.ref f4) = true)
  (a5 : PySem.W.findIn K (.ref C_Asker) "__init__" = some (some (.ref f5)))
  (i5 : PySem.W.isFn K (.ref f5) = true)
  (l5 : K.lookup f5 = some ⟨o5,d5,.func (PySem.W.fnOf "__init__" "Asker.__init__" (zaf zaC) (zae zaC) (zab zaC) .none q5 r5 s5 e5 t5 u5),g5⟩)
  (c5 : PySem.W.codeIn K t5 "Asker.__init__" = true)
  (k5 : PySem.W.keepIn K (.ref f5) = true)
  (a6 : PySem.W.findIn K (.ref C_Asker) "begin" = some (some (.ref f6)))
  (i6 : PySem.W.isFn K (.ref f6) = true)
  (l6 : K.lookup f6 = some ⟨o6,d6,.func (PySem.W.fnOf "begin" "Asker.begin" (zaf zaZ) (zae zaZ) (zab zaZ) .none q6 r6 s6 e6 t6 u6),g6⟩)
  (c6 : PySem.W.codeIn K t6 "Asker.begin" = true)
  (k6 : PySem.W.keepIn K (.ref f6) = true)
  (a7 : PySem.W.findIn K (.ref C_Asker) "fall" = some (some (.ref f7)))
  (i7 : PySem.W.isFn K (.ref f7) = true)
  (l7 : K.lookup f7 = some ⟨o7,d7,.func (PySem.W.fnOf "fall" "Asker.fall" (zaf zbe) (zae zbe) (zab zbe) .none q7 r7 s7 e7 t7 u7),g7⟩)
  (c7 : PySem.W.codeIn K t7 "Asker.fall" = true)
  (k7 : PySem.W.keepIn K (.ref f7) = true)
  (a8 : PySem.W.findIn K (.ref C_Voter) "__init__" = some (some (.ref f8)))
  (i8 : PySem.W.isFn K (.ref f8) = true)
  (l8 : K.lookup f8 = some ⟨o8,d8,.func (PySem.W.fnOf "__init__" "Voter.__init__" (zaf zaz) (zae zaz) (zab zaz) .none q8 r8 s8 e8 t8 u8),g8⟩)
  (c8 : PySem.W.codeIn K t8 "Voter.__init__" = true)
  (k8 : PySem.W.keepIn K (.ref f8) = true)
  (a9 : PySem.W.findIn K (.ref C_Room) "asker_at" = some (some (.ref f9)))
  (i9 : PySem.W.isFn K (.ref f9) = true)
  (l9 : K.lookup f9 = some ⟨o9,d9,.func (PySem.W.fnOf "asker_at" "Room.asker_at" (zaf zaI) (zae zaI) (zab zaI) .none q9 r9 s9 e9 t9 u9),g9⟩)
  (c9 : PySem.W.codeIn K t9 "Room.asker_at" = true)
  (k9 : PySem.W.keepIn K (.ref f9) = true)
  (a10 : PySem.W.findIn K (.ref C_Room) "voter_at" = some (some (.ref f10)))
  (i10 : PySem.W.isFn K (.ref f10) = true)
  (l10 : K.lookup f10 = some ⟨o10,d10,.func (PySem.W.fnOf "voter_at" "Room.voter_at" (zaf zaH) (zae zaH) (zab zaH) .none q10 r10 s10 e10 t10 u10),g10⟩)
  (c10 : PySem.W.codeIn K t10 "Room.voter_at" = true)
  (k10 : PySem.W.keepIn K (.ref f10) = true)
  (a11 : PySem.W.findIn K (.ref C_Room) "letters" = some (some (.ref f11)))
  (i11 : PySem.W.isFn K (.ref f11) = true)
  (l11 : K.lookup f11 = some ⟨o11,d11,.func (PySem.W.fnOf "letters" "Room.letters" (zaf zaN) (zae zaN) (zab zaN) .none q11 r11 s11 e11 t11 u11),g11⟩)
  (c11 : PySem.W.codeIn K t11 "Room.letters" = true)
  (k11 : PySem.W.keepIn K (.ref f11) = true)
  (a12 : PySem.W.findIn K (.ref C_Room) "begin" = some (some (.ref f12)))
  (i12 : PySem.W.isFn K (.ref f12) = true)
  (l12 : K.lookup f12 = some ⟨o12,d12,.func (PySem.W.fnOf "begin" "Room.begin" (zaf zbb) (zae zbb) (zab zbb) .none q12 r12 s12 e12 t12 u12),g12⟩)
  (c12 : PySem.W.codeIn K t12 "Room.begin" = true)
  (k12 : PySem.W.keepIn K (.ref f12) = true)
  (a13 : PySem.W.findIn K (.ref C_Room) "fall" = some (some (.ref f13)))
  (i13 : PySem.W.isFn K (.ref f13) = true)
  (l13 : K.lookup f13 = some ⟨o13,d13,.func (PySem.W.fnOf "fall" "Room.fall" (zaf zbs) (zae zbs) (zab zbs) .none q13 r13 s13 e13 t13 u13),g13⟩)
  (c13 : PySem.W.codeIn K t13 "Room.fall" = true)
  (k13 : PySem.W.keepIn K (.ref f13) = true)
  (a14 : PySem.W.findIn K (.ref C_Room) "ballot_of" = some (some (.ref f14)))
  (i14 : PySem.W.isFn K (.ref f14) = true)
  (l14 : K.lookup f14 = some ⟨o14,d14,.func (PySem.W.fnOf "ballot_of" "Room.ballot_of" (zaf zaA) (zae zaA) (zab zaA) .none q14 r14 s14 e14 t14 u14),g14⟩)
  (c14 : PySem.W.codeIn K t14 "Room.ballot_of" = true)
  (k14 : PySem.W.keepIn K (.ref f14) = true)
  (a15 : PySem.W.nsIn K mainGlobals "more_than_half" = some (some (.ref f15)))
  (l15 : K.lookup f15 = some ⟨o15,d15,.func (PySem.W.fnOf "more_than_half" "more_than_half" (zaf zax) (zae zax) (zab zax) .none q15 r15 s15 e15 t15 u15),g15⟩)
  (c15 : PySem.W.codeIn K t15 "more_than_half" = true)
  (k15 : PySem.W.keepIn K (.ref f15) = true)
  (a16 : PySem.W.findIn K (.ref C_Room) "__init__" = some (some (.ref f16)))
  (i16 : PySem.W.isFn K (.ref f16) = true)
  (l16 : K.lookup f16 = some ⟨o16,d16,.func (PySem.W.fnOf "__init__" "Room.__init__" (zaf zaq) (zae zaq) (zab zaq) .none q16 r16 s16 e16 t16 u16),g16⟩)
  (c16 : PySem.W.codeIn K t16 "Room.__init__" = true)
  (k16 : PySem.W.keepIn K (.ref f16) = true)
  (a17 : PySem.W.nsIn K mainGlobals "promise" = some (some (.ref f17)))
  (l17 : K.lookup f17 = some ⟨o17,d17,.func (PySem.W.fnOf "promise" "promise" (zaf zb8) (zae zb8) (zab zb8) .none q17 r17 s17 e17 t17 u17),g17⟩)
  (c17 : PySem.W.codeIn K t17 "promise" = true)
  (k17 : PySem.W.keepIn K (.ref f17) = true)
  (a18 : PySem.W.nsIn K mainGlobals "ask" = some (some (.ref f18)))
  (l18 : K.lookup f18 = some ⟨o18,d18,.func (PySem.W.fnOf "ask" "ask" (zaf s_ask) (zae s_ask) (zab s_ask) .none q18 r18 s18 e18 t18 u18),g18⟩)
  (c18 : PySem.W.codeIn K t18 "ask" = true)
  (k18 : PySem.W.keepIn K (.ref f18) = true)
  (a19 : PySem.W.nsIn K mainGlobals "vote" = some (some (.ref f19)))
  (l19 : K.lookup f19 = some ⟨o19,d19,.func (PySem.W.fnOf "vote" "vote" (zaf s_vote) (zae s_vote) (zab s_vote) .none q19 r19 s19 e19 t19 u19),g19⟩)
  (c19 : PySem.W.codeIn K t19 "vote" = true)
  (k19 : PySem.W.keepIn K (.ref f19) = true)
  (a20 : PySem.W.nsIn K mainGlobals "owner" = some (some (.ref f20)))
  (l20 : K.lookup f20 = some ⟨o20,d20,.func (PySem.W.fnOf "owner" "owner" (zaf s_owner) (zae s_owner) (zab s_owner) .none q20 r20 s20 e20 t20 u20),g20⟩)
  (c20 : PySem.W.codeIn K t20 "owner" = true)
  (k20 : PySem.W.keepIn K (.ref f20) = true)
  (a21 : PySem.W.findIn K (.ref C_Pile) "letter_at" = some (some (.ref f21)))
  (i21 : PySem.W.isFn K (.ref f21) = true)
  (l21 : K.lookup f21 = some ⟨o21,d21,.func (PySem.W.fnOf "letter_at" "Pile.letter_at" (zaf zaB) (zae zaB) (zab zaB) .none q21 r21 s21 e21 t21 u21),g21⟩)
  (c21 : PySem.W.codeIn K t21 "Pile.letter_at" = true)
  (k21 : PySem.W.keepIn K (.ref f21) = true)
  (a22 : PySem.W.findIn K (.ref C_Voter) "hear_prepare" = some (some (.ref f22)))
  (i22 : PySem.W.isFn K (.ref f22) = true)
  (l22 : K.lookup f22 = some ⟨o22,d22,.func (PySem.W.fnOf "hear_prepare" "Voter.hear_prepare" (zaf zap) (zae zap) (zab zap) .none q22 r22 s22 e22 t22 u22),g22⟩)
  (c22 : PySem.W.codeIn K t22 "Voter.hear_prepare" = true)
  (k22 : PySem.W.keepIn K (.ref f22) = true)
  (a23 : PySem.W.findIn K (.ref C_Voter) "hear_ask" = some (some (.ref f23)))
  (i23 : PySem.W.isFn K (.ref f23) = true)
  (l23 : K.lookup f23 = some ⟨o23,d23,.func (PySem.W.fnOf "hear_ask" "Voter.hear_ask" (zaf zay) (zae zay) (zab zay) .none q23 r23 s23 e23 t23 u23),g23⟩)
  (c23 : PySem.W.codeIn K t23 "Voter.hear_ask" = true)
  (k23 : PySem.W.keepIn K (.ref f23) = true)
  (a24 : PySem.W.findIn K (.ref C_Voter) "hear" = some (some (.ref f24)))
  (i24 : PySem.W.isFn K (.ref f24) = true)
  (l24 : K.lookup f24 = some ⟨o24,d24,.func (PySem.W.fnOf "hear" "Voter.hear" (zaf za9) (zae za9) (zab za9) .none q24 r24 s24 e24 t24 u24),g24⟩)
  (c24 : PySem.W.codeIn K t24 "Voter.hear" = true)
  (k24 : PySem.W.keepIn K (.ref f24) = true)
  (a25 : PySem.W.findIn K (.ref C_Asker) "wish_to_ask" = some (some (.ref f25)))
  (i25 : PySem.W.isFn K (.ref f25) = true)
  (l25 : K.lookup f25 = some ⟨o25,d25,.func (PySem.W.fnOf "wish_to_ask" "Asker.wish_to_ask" (zaf zam) (zae zam) (zab zam) .none q25 r25 s25 e25 t25 u25),g25⟩)
  (c25 : PySem.W.codeIn K t25 "Asker.wish_to_ask" = true)
  (k25 : PySem.W.keepIn K (.ref f25) = true)
  (a26 : PySem.W.findIn K (.ref C_Asker) "hear" = some (some (.ref f26)))
  (i26 : PySem.W.isFn K (.ref f26) = true)
  (l26 : K.lookup f26 = some ⟨o26,d26,.func (PySem.W.fnOf "hear" "Asker.hear" (zaf zbd) (zae zbd) (zab zbd) .none q26 r26 s26 e26 t26 u26),g26⟩)
  (c26 : PySem.W.codeIn K t26 "Asker.hear" = true)
  (k26 : PySem.W.keepIn K (.ref f26) = true)
  (a27 : PySem.W.findIn K (.ref C_Room) "come" = some (some (.ref f27)))
  (i27 : PySem.W.isFn K (.ref f27) = true)
  (l27 : K.lookup f27 = some ⟨o27,d27,.func (PySem.W.fnOf "come" "Room.come" (zaf zbt) (zae zbt) (zab zbt) .none q27 r27 s27 e27 t27 u27),g27⟩)
  (c27 : PySem.W.codeIn K t27 "Room.come" = true)
  (k27 : PySem.W.keepIn K (.ref f27) = true)
  (a28 : PySem.W.findIn K (.ref C_Room) "bring" = some (some (.ref f28)))
  (i28 : PySem.W.isFn K (.ref f28) = true)
  (l28 : K.lookup f28 = some ⟨o28,d28,.func (PySem.W.fnOf "bring" "Room.bring" (zaf zba) (zae zba) (zab zba) .none q28 r28 s28 e28 t28 u28),g28⟩)
  (c28 : PySem.W.codeIn K t28 "Room.bring" = true)
  (k28 : PySem.W.keepIn K (.ref f28) = true)
  (a29 : PySem.W.nsIn K mainGlobals "chosen_pairs" = some (some (.ref f29)))
  (l29 : K.lookup f29 = some ⟨o29,d29,.func (PySem.W.fnOf "chosen_pairs" "chosen_pairs" (zaf zaE) (zae zaE) (zab zaE) .none q29 r29 s29 e29 t29 u29),g29⟩)
  (c29 : PySem.W.codeIn K t29 "chosen_pairs" = true)
  (k29 : PySem.W.keepIn K (.ref f29) = true)
  (a30 : PySem.W.findIn K (.ref C_Room) "chosen" = some (some (.ref f30)))
  (i30 : PySem.W.isFn K (.ref f30) = true)
  (l30 : K.lookup f30 = some ⟨o30,d30,.func (PySem.W.fnOf "chosen" "Room.chosen" (zaf zaX) (zae zaX) (zab zaX) .none q30 r30 s30 e30 t30 u30),g30⟩)
  (c30 : PySem.W.codeIn K t30 "Room.chosen" = true)
  (k30 : PySem.W.keepIn K (.ref f30) = true)
  (a31 : PySem.W.nsIn K mainGlobals "_law_cell" = some (some (.ref f31)))
  (l31 : K.lookup f31 = some ⟨o31,d31,.func (PySem.W.fnOf "_law_cell" "_law_cell" (zaf zbr) (zae zbr) (zab zbr) .none q31 r31 s31 e31 t31 u31),g31⟩)
  (c31 : PySem.W.codeIn K t31 "_law_cell" = true)
  (k31 : PySem.W.keepIn K (.ref f31) = true)
  (a32 : PySem.W.nsIn K mainGlobals "_law_mix" = some (some (.ref f32)))
  (l32 : K.lookup f32 = some ⟨o32,d32,.func (PySem.W.fnOf "_law_mix" "_law_mix" (zaf zbJ) (zae zbJ) (zab zbJ) .none q32 r32 s32 e32 t32 u32),g32⟩)
  (c32 : PySem.W.codeIn K t32 "_law_mix" = true)
  (k32 : PySem.W.keepIn K (.ref f32) = true)
  (a33 : PySem.W.nsIn K mainGlobals "_law_wishes" = some (some (.ref f33)))
  (l33 : K.lookup f33 = some ⟨o33,d33,.func (PySem.W.fnOf "_law_wishes" "_law_wishes" (zaf zaK) (zae zaK) (zab zaK) .none q33 r33 s33 e33 t33 u33),g33⟩)
  (c33 : PySem.W.codeIn K t33 "_law_wishes" = true)
  (k33 : PySem.W.keepIn K (.ref f33) = true)
  (a34 : PySem.W.nsIn K mainGlobals "_law_many" = some (some (.ref f34)))
  (l34 : K.lookup f34 = some ⟨o34,d34,.func (PySem.W.fnOf "_law_many" "_law_many" (zaf zbq) (zae zbq) (zab zbq) .none q34 r34 s34 e34 t34 u34),g34⟩)
  (c34 : PySem.W.codeIn K t34 "_law_many" = true)
  (k34 : PySem.W.keepIn K (.ref f34) = true)
  (a35 : PySem.W.nsIn K mainGlobals "_law_some" = some (some (.ref f35)))
  (l35 : K.lookup f35 = some ⟨o35,d35,.func (PySem.W.fnOf "_law_some" "_law_some" (zaf za5) (zae za5) (zab za5) .none q35 r35 s35 e35 t35 u35),g35⟩)
  (c35 : PySem.W.codeIn K t35 "_law_some" = true)
  (k35 : PySem.W.keepIn K (.ref f35) = true)
  (a36 : PySem.W.nsIn K mainGlobals "_law_do" = some (some (.ref f36)))
  (l36 : K.lookup f36 = some ⟨o36,d36,.func (PySem.W.fnOf "_law_do" "_law_do" (zaf zca) (zae zca) (zab zca) .none q36 r36 s36 e36 t36 u36),g36⟩)
  (c36 : PySem.W.codeIn K t36 "_law_do" = true)
  (k36 : PySem.W.keepIn K (.ref f36) = true)
  (a37 : PySem.W.nsIn K mainGlobals "_law_bring" = some (some (.ref f37)))
  (l37 : K.lookup f37 = some ⟨o37,d37,.func (PySem.W.fnOf "_law_bring" "_law_bring" (zaf za8) (zae za8) (zab za8) .none q37 r37 s37 e37 t37 u37),g37⟩)
  (c37 : PySem.W.codeIn K t37 "_law_bring" = true)
  (k37 : PySem.W.keepIn K (.ref f37) = true)
  (a38 : PySem.W.nsIn K mainGlobals "_law_play" = some (some (.ref f38)))
  (l38 : K.lookup f38 = some ⟨o38,d38,.func (PySem.W.fnOf "_law_play" "_law_play" (zaf za6) (zae za6) (zab za6) .none q38 r38 s38 e38 t38 u38),g38⟩)
  (c38 : PySem.W.codeIn K t38 "_law_play" = true)
  (k38 : PySem.W.keepIn K (.ref f38) = true)
  (a39 : PySem.W.nsIn K mainGlobals "chosen_wish" = some (some (.ref f39)))
  (l39 : K.lookup f39 = some ⟨o39,d39,.func (PySem.W.fnOf "chosen_wish" "chosen_wish" (zaf zaW) (zae zaW) (zab zaW) .none q39 r39 s39 e39 t39 u39),g39⟩)
  (c39 : PySem.W.codeIn K t39 "chosen_wish" = true)
  (k39 : PySem.W.keepIn K (.ref f39) = true)
  (a40 : PySem.W.findIn K (.ref C_Room) "choice" = some (some (.ref f40)))
  (i40 : PySem.W.isFn K (.ref f40) = true)
  (l40 : K.lookup f40 = some ⟨o40,d40,.func (PySem.W.fnOf "choice" "Room.choice" (zaf zaY) (zae zaY) (zab zaY) .none q40 r40 s40 e40 t40 u40),g40⟩)
  (c40 : PySem.W.codeIn K t40 "Room.choice" = true)
  (k40 : PySem.W.keepIn K (.ref f40) = true)
  (a41 : PySem.W.nsIn K mainGlobals "law" = some (some (.ref f41)))
  (l41 : K.lookup f41 = some ⟨o41,d41,.func (PySem.W.fnOf "law" "law" (zaf s_law) (zae s_law) (zab s_law) .none q41 r41 s41 e41 t41 u41),g41⟩)
  (c41 : PySem.W.codeIn K t41 "law" = true)
  (k41 : PySem.W.keepIn K (.ref f41) = true)
  (z_all : PySem.W.nsIn K mainGlobals "all" = some none)
  (z_enumerate : PySem.W.nsIn K mainGlobals "enumerate" = some none)
  (z_int : PySem.W.nsIn K mainGlobals "int" = some none)
  (z_isinstance : PySem.W.nsIn K mainGlobals "isinstance" = some none)
  (z_len : PySem.W.nsIn K mainGlobals "len" = some none)
  (z_list : PySem.W.nsIn K mainGlobals "list" = some none)
  (z_max : PySem.W.nsIn K mainGlobals "max" = some none)
  (z_range : PySem.W.nsIn K mainGlobals "range" = some none)
  (z_set : PySem.W.nsIn K mainGlobals "set" = some none)
  (z_sorted : PySem.W.nsIn K mainGlobals "sorted" = some none)
  (z_tuple : PySem.W.nsIn K mainGlobals "tuple" = some none)
  (y_ASK : PySem.W.nsIn K mainGlobals "ASK" = some (some (.str "ask" t_ASK)))
  (y_PREPARE : PySem.W.nsIn K mainGlobals "PREPARE" = some (some (.str "prepare" t_PREPARE)))
  (y_PROMISE : PySem.W.nsIn K mainGlobals "PROMISE" = some (some (.str "promise" t_PROMISE)))
  (y_VOTE : PySem.W.nsIn K mainGlobals "VOTE" = some (some (.str "vote" t_VOTE))) :
  ∃ fd : FuncData,(∀ (s : Shared) (v : Value),BindsTo s fd ⟨[v],[]⟩ [("_law_script",v)]) /\ ∀ base : Heap,K.In base -> base.Ns mainGlobals mg -> FOk l.prog w K mg base 9 fa fd ["_law_script"] spLaw := by
 have e := hfa.symm.trans (PySem.W.mg_of X G a41)
 cases e
 have KP : Cls K C_Pile := ⟨pP,hP,oP,sP⟩
 have KA : Cls K C_Asker := ⟨pA,hA,oA,sA⟩
 have KV : Cls K C_Voter := ⟨pV,hV,oV,sV⟩
 have KR : Cls K C_Room := ⟨pR,hR,oR,sR⟩
 have aT : At K (mkZ C_Pile C_Asker C_Voter C_Room) := ⟨⟨KP,nP0⟩,⟨KP,nP1⟩,⟨KA,nA0⟩,⟨KA,nA1⟩,⟨KA,nA2⟩,⟨KA,nA3⟩,⟨KA,nA4⟩,⟨KA,nA5⟩,⟨KA,nA6⟩,⟨KA,nA7⟩,⟨KV,nV0⟩,⟨KV,nV1⟩,⟨KV,nV2⟩,⟨KR,nR0⟩,⟨KR,nR1⟩,⟨KR,nR2⟩,⟨KR,nR3⟩⟩
 have T0 := zal (st := zb9) l0 c0 k0
 have B0 := T0.binds (ps := ["ballot"]) fun _ _ _ _ _ _ us hl => by obtain ⟨_,rfl⟩ := len1 hl; rfl
 have T1 := zal (st := zaJ) l1 c1 k1
 have B1 := T1.binds (ps := ["self"]) fun _ _ _ _ _ _ us hl => by obtain ⟨_,rfl⟩ := len1 hl; rfl
 have T2 := zal (st := zbc) l2 c2 k2
 have B2 := T2.binds (ps := ["self","letter"]) fun _ _ _ _ _ _ us hl => by obtain ⟨_,_,rfl⟩ := len2 hl; rfl
 have T3 := zal (st := zaO) l3 c3 k3
 have B3 := T3.binds (ps := ["self"]) fun _ _ _ _ _ _ us hl => by obtain ⟨_,rfl⟩ := len1 hl; rfl
 have T4 := zal (st := za7) l4 c4 k4
 have B4 := T4.binds (ps := ["number","askers","least"]) fun _ _ _ _ _ _ us hl => by obtain ⟨_,_,_,rfl⟩ := len3' hl; rfl
 have T5 := zal (st := zaC) l5 c5 k5
 have B5 := T5.binds (ps := ["self","number","askers","wish","many"]) fun _ _ _ _ _ _ us hl => by obtain ⟨_,_,_,_,_,rfl⟩ := len5 hl; rfl
 have T6 := zal (st := zaZ) l6 c6 k6
 have B6 := T6.binds (ps := ["self","least"]) fun _ _ _ _ _ _ us hl => by obtain ⟨_,_,rfl⟩ := len2 hl; rfl
 have T7 := zal (st := zbe) l7 c7 k7
 have B7 := T7.binds (ps := ["self"]) fun _ _ _ _ _ _ us hl => by obtain ⟨_,rfl⟩ := len1 hl; rfl
 have T8 := zal (st := zaz) l8 c8 k8
 have B8 := T8.binds (ps := ["self","number"]) fun _ _ _ _ _ _ us hl => by obtain ⟨_,_,rfl⟩ := len2 hl; rfl
 have T9 := zal (st := zaI) l9 c9 k9
 have B9 := T9.binds (ps := ["self","asker"]) fun _ _ _ _ _ _ us hl => by obtain ⟨_,_,rfl⟩ := len2 hl; rfl
 have T10 := zal (st := zaH) l10 c10 k10
 have B10 := T10.binds (ps := ["self","voter"]) fun _ _ _ _ _ _ us hl => by obtain ⟨_,_,rfl⟩ := len2 hl; rfl
 have T11 := zal (st := zaN) l11 c11 k11
 have B11 := T11.binds (ps := ["self"]) fun _ _ _ _ _ _ us hl => by obtain ⟨_,rfl⟩ := len1 hl; rfl
 have T12 := zal (st := zbb) l12 c12 k12
 have B12 := T12.binds (ps := ["self","asker","least"]) fun _ _ _ _ _ _ us hl => by obtain ⟨_,_,_,rfl⟩ := len3' hl; rfl
 have T13 := zal (st := zbs) l13 c13 k13
 have B13 := T13.binds (ps := ["self","asker"]) fun _ _ _ _ _ _ us hl => by obtain ⟨_,_,rfl⟩ := len2 hl; rfl
 have T14 := zal (st := zaA) l14 c14 k14
 have B14 := T14.binds (ps := ["self","asker"]) fun _ _ _ _ _ _ us hl => by obtain ⟨_,_,rfl⟩ := len2 hl; rfl
 have T15 := zal (st := zax) l15 c15 k15
 have B15 := T15.binds (ps := ["some","many"]) fun _ _ _ _ _ _ us hl => by obtain ⟨_,_,rfl⟩ := len2 hl; rfl
 have T16 := zal (st := zaq) l16 c16 k16
 have B16 := T16.binds (ps := ["self","wishes","many"]) fun _ _ _ _ _ _ us hl => by obtain ⟨_,_,_,rfl⟩ := len3' hl; rfl
 have T17 := zal (st := zb8) l17 c17 k17
 have B17 := T17.binds (ps := ["ballot","voter","last"]) fun _ _ _ _ _ _ us hl => by obtain ⟨_,_,_,rfl⟩ := len3' hl; rfl
 have T18 := zal (st := s_ask) l18 c18 k18
 have B18 := T18.binds (ps := ["ballot","wish"]) fun _ _ _ _ _ _ us hl => by obtain ⟨_,_,rfl⟩ := len2 hl; rfl
 have T19 := zal (st := s_vote) l19 c19 k19
 have B19 := T19.binds (ps := ["ballot","voter","wish"]) fun _ _ _ _ _ _ us hl => by obtain ⟨_,_,_,rfl⟩ := len3' hl; rfl
 have T20 := zal (st := s_owner) l20 c20 k20
 have B20 := T20.binds (ps := ["ballot","askers"]) fun _ _ _ _ _ _ us hl => by obtain ⟨_,_,rfl⟩ := len2 hl; rfl
 have T21 := zal (st := zaB) l21 c21 k21
 have B21 := T21.binds (ps := ["self","k"]) fun _ _ _ _ _ _ us hl => by obtain ⟨_,_,rfl⟩ := len2 hl; rfl
 have T22 := zal (st := zap) l22 c22 k22
 have B22 := T22.binds (ps := ["self","ballot"]) fun _ _ _ _ _ _ us hl => by obtain ⟨_,_,rfl⟩ := len2 hl; rfl
 have T23 := zal (st := zay) l23 c23 k23
 have B23 := T23.binds (ps := ["self","ballot","wish"]) fun _ _ _ _ _ _ us hl => by obtain ⟨_,_,_,rfl⟩ := len3' hl; rfl
 have T24 := zal (st := za9) l24 c24 k24
 have B24 := T24.binds (ps := ["self","letter"]) fun _ _ _ _ _ _ us hl => by obtain ⟨_,_,rfl⟩ := len2 hl; rfl
 have T25 := zal (st := zam) l25 c25 k25
 have B25 := T25.binds (ps := ["self"]) fun _ _ _ _ _ _ us hl => by obtain ⟨_,rfl⟩ := len1 hl; rfl
 have T26 := zal (st := zbd) l26 c26 k26
 have B26 := T26.binds (ps := ["self","letter"]) fun _ _ _ _ _ _ us hl => by obtain ⟨_,_,rfl⟩ := len2 hl; rfl
 have T27 := zal (st := zbt) l27 c27 k27
 have B27 := T27.binds (ps := ["self","letter","voter"]) fun _ _ _ _ _ _ us hl => by obtain ⟨_,_,_,rfl⟩ := len3' hl; rfl
 have T28 := zal (st := zba) l28 c28 k28
 have B28 := T28.binds (ps := ["self","k","voter"]) fun _ _ _ _ _ _ us hl => by obtain ⟨_,_,_,rfl⟩ := len3' hl; rfl
 have T29 := zal (st := zaE) l29 c29 k29
 have B29 := T29.binds (ps := ["letters","many"]) fun _ _ _ _ _ _ us hl => by obtain ⟨_,_,rfl⟩ := len2 hl; rfl
 have T30 := zal (st := zaX) l30 c30 k30
 have B30 := T30.binds (ps := ["self"]) fun _ _ _ _ _ _ us hl => by obtain ⟨_,rfl⟩ := len1 hl; rfl
 have T31 := zal (st := zbr) l31 c31 k31
 have B31 := T31.binds (ps := ["_law_script","_law_k"]) fun _ _ _ _ _ _ us hl => by obtain ⟨_,_,rfl⟩ := len2 hl; rfl
 have T32 := zal (st := zbJ) l32 c32 k32
 have B32 := T32.binds (ps := ["_law_cell_here","_law_prime","_law_many_here"]) fun _ _ _ _ _ _ us hl => by obtain ⟨_,_,_,rfl⟩ := len3' hl; rfl
 have T33 := zal (st := zaK) l33 c33 k33
 have B33 := T33.binds (ps := ["_law_script"]) fun _ _ _ _ _ _ us hl => by obtain ⟨_,rfl⟩ := len1 hl; rfl
 have T34 := zal (st := zbq) l34 c34 k34
 have B34 := T34.binds (ps := ["_law_script"]) fun _ _ _ _ _ _ us hl => by obtain ⟨_,rfl⟩ := len1 hl; rfl
 have T35 := zal (st := za5) l35 c35 k35
 have B35 := T35.binds (ps := ["_law_cell_here","_law_many_here","_law_size"]) fun _ _ _ _ _ _ us hl => by obtain ⟨_,_,_,rfl⟩ := len3' hl; rfl
 have T36 := zal (st := zca) l36 c36 k36
 have B36 := T36.binds (ps := ["_law_room","_law_act","_law_done"]) fun _ _ _ _ _ _ us hl => by obtain ⟨_,_,_,rfl⟩ := len3' hl; rfl
 have T37 := zal (st := za8) l37 c37 k37
 have B37 := T37.binds (ps := ["_law_room","_law_kind","_law_ballot","_law_voters","_law_done"]) fun _ _ _ _ _ _ us hl => by obtain ⟨_,_,_,_,_,rfl⟩ := len5 hl; rfl
 have T38 := zal (st := za6) l38 c38 k38
 have B38 := T38.binds (ps := ["_law_room","_law_cell_here","_law_askers","_law_many_here","_law_done"]) fun _ _ _ _ _ _ us hl => by obtain ⟨_,_,_,_,_,rfl⟩ := len5 hl; rfl
 have T39 := zal (st := zaW) l39 c39 k39
 have B39 := T39.binds (ps := ["pairs"]) fun _ _ _ _ _ _ us hl => by obtain ⟨_,rfl⟩ := len1 hl; rfl
 have T40 := zal (st := zaY) l40 c40 k40
 have B40 := T40.binds (ps := ["self"]) fun _ _ _ _ _ _ us hl => by obtain ⟨_,rfl⟩ := len1 hl; rfl
 have T41 := zal (st := s_law) l41 c41 k41
 have B41 := T41.binds (ps := ["_law_script"]) fun _ _ _ _ _ _ us hl => by obtain ⟨_,rfl⟩ := len1 hl; rfl
 refine ⟨PySem.W.fnOf "law" "law" (zaf s_law) (zae s_law) (zab s_law) .none q41 r41 s41 e41 t41 u41,fun s v => .of_eq rfl,fun base _ _ => ?_⟩
 have F0 : zbS l.prog w K mg base 1 "prepare" ["ballot"] (zb5 (mkZ C_Pile C_Asker C_Voter C_Room)) := ⟨_,_,ok_prepare (Pg := l.prog) (w := w) (mg := mg) (base := base) (Z := mkZ C_Pile C_Asker C_Voter C_Room) T0 aT ⟨_,PySem.W.mg_of X G y_PREPARE⟩,PySem.W.mg_of X G a0,k0,B0⟩
 have N1 : MkAt l.prog w K mg base 1 "Pile" C_Pile ["self"] (zbC (mkZ C_Pile C_Asker C_Voter C_Room)) := ⟨_,_,ok_Pile___init__ (Pg := l.prog) (w := w) (mg := mg) (base := base) (Z := mkZ C_Pile C_Asker C_Voter C_Room) T1 aT ,PySem.W.mg_of X G CP,⟨mP,a1,i1,kP⟩,B1⟩
 have M2 : zbD l.prog w K mg base 1 C_Pile "write" ["self","letter"] (zbh (mkZ C_Pile C_Asker C_Voter C_Room)) := ⟨_,_,ok_Pile_write (Pg := l.prog) (w := w) (mg := mg) (base := base) (Z := mkZ C_Pile C_Asker C_Voter C_Room) T2 aT ,KP,⟨a2,i2,k2⟩,B2⟩
 have M3 : zbD l.prog w K mg base 1 C_Pile "letters" ["self"] (zbi (mkZ C_Pile C_Asker C_Voter C_Room)) := ⟨_,_,ok_Pile_letters (Pg := l.prog) (w := w) (mg := mg) (base := base) (Z := mkZ C_Pile C_Asker C_Voter C_Room) T3 aT (PySem.W.mg_none_of X G z_tuple),KP,⟨a3,i3,k3⟩,B3⟩
 have F4 : zbS l.prog w K mg base 1 "own_ballot" ["number","askers","least"] (zaR (mkZ C_Pile C_Asker C_Voter C_Room)) := ⟨_,_,ok_own_ballot (Pg := l.prog) (w := w) (mg := mg) (base := base) (Z := mkZ C_Pile C_Asker C_Voter C_Room) T4 aT (PySem.W.mg_none_of X G z_max),PySem.W.mg_of X G a4,k4,B4⟩
 have N5 : MkAt l.prog w K mg base 1 "Asker" C_Asker ["self","number","askers","wish","many"] (zaV (mkZ C_Pile C_Asker C_Voter C_Room)) := ⟨_,_,ok_Asker___init__ (Pg := l.prog) (w := w) (mg := mg) (base := base) (Z := mkZ C_Pile C_Asker C_Voter C_Room) T5 aT ,PySem.W.mg_of X G CA,⟨mA,a5,i5,kA⟩,B5⟩
 have M6 : zbD l.prog w K mg base 2 C_Asker "begin" ["self","least"] (zbY (mkZ C_Pile C_Asker C_Voter C_Room)) := ⟨_,_,ok_Asker_begin (Pg := l.prog) (w := w) (mg := mg) (base := base) (Z := mkZ C_Pile C_Asker C_Voter C_Room) T6 aT (PySem.W.mg_none_of X G z_max) F4 F0,KA,⟨a6,i6,k6⟩,B6⟩
 have M7 : zbD l.prog w K mg base 1 C_Asker "fall" ["self"] (zck (mkZ C_Pile C_Asker C_Voter C_Room)) := ⟨_,_,ok_Asker_fall (Pg := l.prog) (w := w) (mg := mg) (base := base) (Z := mkZ C_Pile C_Asker C_Voter C_Room) T7 aT ,KA,⟨a7,i7,k7⟩,B7⟩
 have N8 : MkAt l.prog w K mg base 1 "Voter" C_Voter ["self","number"] (zaT (mkZ C_Pile C_Asker C_Voter C_Room)) := ⟨_,_,ok_Voter___init__ (Pg := l.prog) (w := w) (mg := mg) (base := base) (Z := mkZ C_Pile C_Asker C_Voter C_Room) T8 aT ,PySem.W.mg_of X G CV,⟨mV,a8,i8,kV⟩,B8⟩
 have M9 : zbD l.prog w K mg base 1 C_Room "asker_at" ["self","asker"] (zaM (mkZ C_Pile C_Asker C_Voter C_Room)) := ⟨_,_,ok_Room_asker_at (Pg := l.prog) (w := w) (mg := mg) (base := base) (Z := mkZ C_Pile C_Asker C_Voter C_Room) T9 aT (PySem.W.mg_none_of X G z_len),KR,⟨a9,i9,k9⟩,B9⟩
 have M10 : zbD l.prog w K mg base 1 C_Room "voter_at" ["self","voter"] (zbA (mkZ C_Pile C_Asker C_Voter C_Room)) := ⟨_,_,ok_Room_voter_at (Pg := l.prog) (w := w) (mg := mg) (base := base) (Z := mkZ C_Pile C_Asker C_Voter C_Room) T10 aT (PySem.W.mg_none_of X G z_len),KR,⟨a10,i10,k10⟩,B10⟩
 have M11 : zbD l.prog w K mg base 2 C_Room "letters" ["self"] (zbg (mkZ C_Pile C_Asker C_Voter C_Room)) := ⟨_,_,ok_Room_letters (Pg := l.prog) (w := w) (mg := mg) (base := base) (Z := mkZ C_Pile C_Asker C_Voter C_Room) T11 aT M3,KR,⟨a11,i11,k11⟩,B11⟩
 have M12 : zbD l.prog w K mg base 3 C_Room "begin" ["self","asker","least"] (zci (mkZ C_Pile C_Asker C_Voter C_Room)) := ⟨_,_,ok_Room_begin (Pg := l.prog) (w := w) (mg := mg) (base := base) (Z := mkZ C_Pile C_Asker C_Voter C_Room) T12 aT M6 M2 M9,KR,⟨a12,i12,k12⟩,B12⟩
 have M13 : zbD l.prog w K mg base 2 C_Room "fall" ["self","asker"] (sp_Room_fall (mkZ C_Pile C_Asker C_Voter C_Room)) := ⟨_,_,ok_Room_fall (Pg := l.prog) (w := w) (mg := mg) (base := base) (Z := mkZ C_Pile C_Asker C_Voter C_Room) T13 aT M7 M9,KR,⟨a13,i13,k13⟩,B13⟩
 have M14 : zbD l.prog w K mg base 2 C_Room "ballot_of" ["self","asker"] (zaU (mkZ C_Pile C_Asker C_Voter C_Room)) := ⟨_,_,ok_Room_ballot_of (Pg := l.prog) (w := w) (mg := mg) (base := base) (Z := mkZ C_Pile C_Asker C_Voter C_Room) T14 aT M9,KR,⟨a14,i14,k14⟩,B14⟩
 have F15 : zbS l.prog w K mg base 1 "more_than_half" ["some","many"] (zan (mkZ C_Pile C_Asker C_Voter C_Room)) := ⟨_,_,ok_more_than_half (Pg := l.prog) (w := w) (mg := mg) (base := base) (Z := mkZ C_Pile C_Asker C_Voter C_Room) T15 aT ,PySem.W.mg_of X G a15,k15,B15⟩
 have N16 : MkAt l.prog w K mg base 3 "Room" C_Room ["self","wishes","many"] (zbB (mkZ C_Pile C_Asker C_Voter C_Room)) := ⟨_,_,ok_Room___init__ (Pg := l.prog) (w := w) (mg := mg) (base := base) (Z := mkZ C_Pile C_Asker C_Voter C_Room) T16 aT (PySem.W.mg_none_of X G z_enumerate) (PySem.W.mg_none_of X G z_len) (PySem.W.mg_none_of X G z_range) N5 N1 N8,PySem.W.mg_of X G CR,⟨mR,a16,i16,kR⟩,B16⟩
 have F17 : zbS l.prog w K mg base 1 "promise" ["ballot","voter","last"] (zb4 (mkZ C_Pile C_Asker C_Voter C_Room)) := ⟨_,_,ok_promise (Pg := l.prog) (w := w) (mg := mg) (base := base) (Z := mkZ C_Pile C_Asker C_Voter C_Room) T17 aT ⟨_,PySem.W.mg_of X G y_PROMISE⟩,PySem.W.mg_of X G a17,k17,B17⟩
 have F18 : zbS l.prog w K mg base 1 "ask" ["ballot","wish"] (sp_ask (mkZ C_Pile C_Asker C_Voter C_Room)) := ⟨_,_,ok_ask (Pg := l.prog) (w := w) (mg := mg) (base := base) (Z := mkZ C_Pile C_Asker C_Voter C_Room) T18 aT ⟨_,PySem.W.mg_of X G y_ASK⟩,PySem.W.mg_of X G a18,k18,B18⟩
 have F19 : zbS l.prog w K mg base 1 "vote" ["ballot","voter","wish"] (sp_vote (mkZ C_Pile C_Asker C_Voter C_Room)) := ⟨_,_,ok_vote (Pg := l.prog) (w := w) (mg := mg) (base := base) (Z := mkZ C_Pile C_Asker C_Voter C_Room) T19 aT ⟨_,PySem.W.mg_of X G y_VOTE⟩,PySem.W.mg_of X G a19,k19,B19⟩
 have F20 : zbS l.prog w K mg base 1 "owner" ["ballot","askers"] (sp_owner (mkZ C_Pile C_Asker C_Voter C_Room)) := ⟨_,_,ok_owner (Pg := l.prog) (w := w) (mg := mg) (base := base) (Z := mkZ C_Pile C_Asker C_Voter C_Room) T20 aT ,PySem.W.mg_of X G a20,k20,B20⟩
 have M21 : zbD l.prog w K mg base 1 C_Pile "letter_at" ["self","k"] (zbp (mkZ C_Pile C_Asker C_Voter C_Room)) := ⟨_,_,ok_Pile_letter_at (Pg := l.prog) (w := w) (mg := mg) (base := base) (Z := mkZ C_Pile C_Asker C_Voter C_Room) T21 aT (PySem.W.mg_none_of X G z_len),KP,⟨a21,i21,k21⟩,B21⟩
 have M22 : zbD l.prog w K mg base 2 C_Voter "hear_prepare" ["self","ballot"] (zaQ (mkZ C_Pile C_Asker C_Voter C_Room)) := ⟨_,_,ok_Voter_hear_prepare (Pg := l.prog) (w := w) (mg := mg) (base := base) (Z := mkZ C_Pile C_Asker C_Voter C_Room) T22 aT F17,KV,⟨a22,i22,k22⟩,B22⟩
 have M23 : zbD l.prog w K mg base 2 C_Voter "hear_ask" ["self","ballot","wish"] (zbo (mkZ C_Pile C_Asker C_Voter C_Room)) := ⟨_,_,ok_Voter_hear_ask (Pg := l.prog) (w := w) (mg := mg) (base := base) (Z := mkZ C_Pile C_Asker C_Voter C_Room) T23 aT F19,KV,⟨a23,i23,k23⟩,B23⟩
 have M24 : zbD l.prog w K mg base 3 C_Voter "hear" ["self","letter"] (zcg (mkZ C_Pile C_Asker C_Voter C_Room)) := ⟨_,_,ok_Voter_hear (Pg := l.prog) (w := w) (mg := mg) (base := base) (Z := mkZ C_Pile C_Asker C_Voter C_Room) T24 aT ⟨_,PySem.W.mg_of X G y_ASK⟩ ⟨_,PySem.W.mg_of X G y_PREPARE⟩ M23 M22,KV,⟨a24,i24,k24⟩,B24⟩
 have M25 : zbD l.prog w K mg base 1 C_Asker "wish_to_ask" ["self"] (za1 (mkZ C_Pile C_Asker C_Voter C_Room)) := ⟨_,_,ok_Asker_wish_to_ask (Pg := l.prog) (w := w) (mg := mg) (base := base) (Z := mkZ C_Pile C_Asker C_Voter C_Room) T25 aT (PySem.W.mg_none_of X G z_len) (PySem.W.mg_none_of X G z_max),KA,⟨a25,i25,k25⟩,B25⟩
 have M26 : zbD l.prog w K mg base 2 C_Asker "hear" ["self","letter"] (zcj (mkZ C_Pile C_Asker C_Voter C_Room)) := ⟨_,_,ok_Asker_hear (Pg := l.prog) (w := w) (mg := mg) (base := base) (Z := mkZ C_Pile C_Asker C_Voter C_Room) T26 aT (PySem.W.mg_none_of X G z_len) (PySem.W.mg_none_of X G z_sorted) (PySem.W.mg_none_of X G z_tuple) F18 F15 M25,KA,⟨a26,i26,k26⟩,B26⟩
 have M27 : zbD l.prog w K mg base 4 C_Room "come" ["self","letter","voter"] (sp_Room_come (mkZ C_Pile C_Asker C_Voter C_Room)) := ⟨_,_,ok_Room_come (Pg := l.prog) (w := w) (mg := mg) (base := base) (Z := mkZ C_Pile C_Asker C_Voter C_Room) T27 aT (PySem.W.mg_none_of X G z_len) ⟨_,PySem.W.mg_of X G y_PROMISE⟩ ⟨_,PySem.W.mg_of X G y_VOTE⟩ F20 M26 M2 M24,KR,⟨a27,i27,k27⟩,B27⟩
 have M28 : zbD l.prog w K mg base 5 C_Room "bring" ["self","k","voter"] (zch (mkZ C_Pile C_Asker C_Voter C_Room)) := ⟨_,_,ok_Room_bring (Pg := l.prog) (w := w) (mg := mg) (base := base) (Z := mkZ C_Pile C_Asker C_Voter C_Room) T28 aT M21 M27 M10,KR,⟨a28,i28,k28⟩,B28⟩
 have F29 : zbS l.prog w K mg base 2 "chosen_pairs" ["letters","many"] (zbK (mkZ C_Pile C_Asker C_Voter C_Room)) := ⟨_,_,ok_chosen_pairs (Pg := l.prog) (w := w) (mg := mg) (base := base) (Z := mkZ C_Pile C_Asker C_Voter C_Room) T29 aT (PySem.W.mg_none_of X G z_sorted) (PySem.W.mg_none_of X G z_tuple) ⟨_,PySem.W.mg_of X G y_VOTE⟩ F15,PySem.W.mg_of X G a29,k29,B29⟩
 have M30 : zbD l.prog w K mg base 3 C_Room "chosen" ["self"] (zbv (mkZ C_Pile C_Asker C_Voter C_Room)) := ⟨_,_,ok_Room_chosen (Pg := l.prog) (w := w) (mg := mg) (base := base) (Z := mkZ C_Pile C_Asker C_Voter C_Room) T30 aT F29 M3,KR,⟨a30,i30,k30⟩,B30⟩
 have F31 : zbS l.prog w K mg base 1 "_law_cell" ["_law_script","_law_k"] (zby (mkZ C_Pile C_Asker C_Voter C_Room)) := ⟨_,_,ok__law_cell (Pg := l.prog) (w := w) (mg := mg) (base := base) (Z := mkZ C_Pile C_Asker C_Voter C_Room) T31 aT (PySem.W.mg_none_of X G z_len),PySem.W.mg_of X G a31,k31,B31⟩
 have F32 : zbS l.prog w K mg base 1 "_law_mix" ["_law_cell_here","_law_prime","_law_many_here"] (za4 (mkZ C_Pile C_Asker C_Voter C_Room)) := ⟨_,_,ok__law_mix (Pg := l.prog) (w := w) (mg := mg) (base := base) (Z := mkZ C_Pile C_Asker C_Voter C_Room) T32 aT ,PySem.W.mg_of X G a32,k32,B32⟩
 have F33 : zbS l.prog w K mg base 2 "_law_wishes" ["_law_script"] (zbX (mkZ C_Pile C_Asker C_Voter C_Room)) := ⟨_,_,ok__law_wishes (Pg := l.prog) (w := w) (mg := mg) (base := base) (Z := mkZ C_Pile C_Asker C_Voter C_Room) T33 aT (PySem.W.mg_none_of X G z_range) (PySem.W.mg_none_of X G z_tuple) F31 F32,PySem.W.mg_of X G a33,k33,B33⟩
 have F34 : zbS l.prog w K mg base 2 "_law_many" ["_law_script"] (sp__law_many (mkZ C_Pile C_Asker C_Voter C_Room)) := ⟨_,_,ok__law_many (Pg := l.prog) (w := w) (mg := mg) (base := base) (Z := mkZ C_Pile C_Asker C_Voter C_Room) T34 aT F31 F32,PySem.W.mg_of X G a34,k34,B34⟩
 have F35 : zbS l.prog w K mg base 2 "_law_some" ["_law_cell_here","_law_many_here","_law_size"] (zbx (mkZ C_Pile C_Asker C_Voter C_Room)) := ⟨_,_,ok__law_some (Pg := l.prog) (w := w) (mg := mg) (base := base) (Z := mkZ C_Pile C_Asker C_Voter C_Room) T35 aT (PySem.W.mg_none_of X G z_list) (PySem.W.mg_none_of X G z_range) F32,PySem.W.mg_of X G a35,k35,B35⟩
 have F36 : zbS l.prog w K mg base 6 "_law_do" ["_law_room","_law_act","_law_done"] (zb6 (mkZ C_Pile C_Asker C_Voter C_Room)) := ⟨_,_,ok__law_do (Pg := l.prog) (w := w) (mg := mg) (base := base) (Z := mkZ C_Pile C_Asker C_Voter C_Room) T36 aT M12 M28 M13,PySem.W.mg_of X G a36,k36,B36⟩
 have F37 : zbS l.prog w K mg base 7 "_law_bring" ["_law_room","_law_kind","_law_ballot","_law_voters","_law_done"] (zaS (mkZ C_Pile C_Asker C_Voter C_Room)) := ⟨_,_,ok__law_bring (Pg := l.prog) (w := w) (mg := mg) (base := base) (Z := mkZ C_Pile C_Asker C_Voter C_Room) T37 aT (PySem.W.mg_none_of X G z_enumerate) F36 M11,PySem.W.mg_of X G a37,k37,B37⟩
 have F38 : zbS l.prog w K mg base 8 "_law_play" ["_law_room","_law_cell_here","_law_askers","_law_many_here","_law_done"] (sp__law_play (mkZ C_Pile C_Asker C_Voter C_Room)) := ⟨_,_,ok__law_play (Pg := l.prog) (w := w) (mg := mg) (base := base) (Z := mkZ C_Pile C_Asker C_Voter C_Room) T38 aT (PySem.W.mg_none_of X G z_int) (PySem.W.mg_none_of X G z_len) (PySem.W.mg_none_of X G z_max) F37 F36 F32 F35 M14 M11,PySem.W.mg_of X G a38,k38,B38⟩
 have F39 : zbS l.prog w K mg base 1 "chosen_wish" ["pairs"] (zbW (mkZ C_Pile C_Asker C_Voter C_Room)) := ⟨_,_,ok_chosen_wish (Pg := l.prog) (w := w) (mg := mg) (base := base) (Z := mkZ C_Pile C_Asker C_Voter C_Room) T39 aT (PySem.W.mg_none_of X G z_len),PySem.W.mg_of X G a39,k39,B39⟩
 have M40 : zbD l.prog w K mg base 4 C_Room "choice" ["self"] (zbw (mkZ C_Pile C_Asker C_Voter C_Room)) := ⟨_,_,ok_Room_choice (Pg := l.prog) (w := w) (mg := mg) (base := base) (Z := mkZ C_Pile C_Asker C_Voter C_Room) T40 aT F39 M30,KR,⟨a40,i40,k40⟩,B40⟩
 exact ok_law (Pg := l.prog) (w := w) (mg := mg) (base := base) (Z := mkZ C_Pile C_Asker C_Voter C_Room) T41 aT (PySem.W.mg_none_of X G z_all) (PySem.W.mg_none_of X G z_isinstance) (PySem.W.mg_none_of X G z_len) (PySem.W.mg_none_of X G z_list) (PySem.W.mg_none_of X G z_range) (PySem.W.mg_none_of X G z_set) (PySem.W.mg_none_of X G z_sorted) (PySem.W.mg_none_of X G z_tuple) F31 F34 F38 F33 M40 M30 N16
theorem walk {l : PySem.W.OpenLaw} {q : Program} {loose : List Str} {XP : (Str -> Option Value) -> Heap -> Prop} {YP : World -> Heap -> Prop} {d : DefRec} {K : Params -> PySem.W.Frag} (hn : l.most = some 63) (hdf : d.params.defaults = [])
  (hY : ∀ (w : World) (h : Heap),YP w h -> (K w.params).In h)
  (F : ∀ (w : World) (mg : Str -> Option Value) (fa : Addr) (h : Heap),(K w.params).In h -> h.Ns mainGlobals mg -> mg d.name = some (.ref fa) ->
   ∃ fd : FuncData,(∀ (s : Shared) (u : Value),BindsTo s fd ⟨[u],[]⟩ [("_law_script",u)]) /\ ∀ base : Heap,(K w.params).In base -> base.Ns mainGlobals mg -> FOk l.prog w (K w.params) mg base 9 fa fd ["_law_script"] spLaw) :
  PySem.W.WalkO q loose XP YP l.row.toRowW d [] (fun f vs => PySem.call f vs) :=
 L2.walk_of (n := 63) (k := 9) (x := "_law_script") (CX := fun _ => CX0) (sp := fun w => lSp ⟨K w.params,w,l.prog⟩ spLaw) hn (by rw [sizeLine_eq]; decide) hdf ⟨rfl,by decide,by decide⟩ hY F (fun w H a ns hl hO hS => law_start hl hO hS) fun _ _ _ _ _ z => z
end My
def PySem.W.Fast.tw17047997007073901644 : Nat := 0
def PySem.W.Fast.tw6354184530478973842 : Nat := 0
def PySem.W.Fast.tw14749471209625395083 : Nat := 0
def PySem.W.Fast.tw16534422264763210528 : Nat := 0
def PySem.W.Fast.tw5456645672272804687 : Nat := 0
def PySem.W.Fast.tw15476590060795413527 : Nat := 0
def PySem.W.Fast.tw8017776598421575679 : Nat := 0
def PySem.W.Fast.tw17834204545932813226 : Nat := 0
def PySem.W.Fast.tw12722164145443504088 : Nat := 0
def PySem.W.Fast.tw7197837177651765300 : Nat := 0
def PySem.W.Fast.tw14184113037004427771 : Nat := 0
def PySem.W.Fast.tw4072312130697340864 : Nat := 0
def PySem.W.Fast.tw5124194174292362444 : Nat := 0
def PySem.W.Fast.tw1639943689878987893 : Nat := 0
def PySem.W.Fast.tw10515270357288985624 : Nat := 0
def PySem.W.Fast.tw17373188586668328260 : Nat := 0
def PySem.W.Fast.tw14355909376970995538 : Nat := 0
def PySem.W.Fast.tw6701023201459964984 : Nat := 0
def PySem.W.Fast.tw6935383953666185195 : Nat := 0
def PySem.W.Fast.tw17535639855411288960 : Nat := 0
def PySem.W.Fast.tw8995061056627322370 : Nat := 0
def PySem.W.Fast.tw3579742645895228934 : Nat := 0
def PySem.W.Fast.tw1372017734924460001 : Nat := 0
def PySem.W.Fast.tw809744659081937656 : Nat := 0
def PySem.W.Fast.tw6614372321345403710 : Nat := 0
def PySem.W.Fast.tw4568451313657410251 : Nat := 0
def PySem.W.Fast.tw2339849612873981019 : Nat := 0
def PySem.W.Fast.tw15932722836793170552 : Nat := 0
def PySem.W.Fast.tw4961182256505421828 : Nat := 0
def PySem.W.Fast.tw7720527465378739914 : Nat := 0
def PySem.W.Fast.tw9603764889354568546 : Nat := 0
def PySem.W.Fast.tw10505756251587641273 : Nat := 0
def PySem.W.Fast.tw13293439458507593221 : Nat := 0
def PySem.W.Fast.tw333071172778565332 : Nat := 0
def PySem.W.Fast.tw12220142986319763856 : Nat := 0
def PySem.W.Fast.tw4285662403680490399 : Nat := 0
def PySem.W.Fast.tw3200012231934655934 : Nat := 0
def PySem.W.Fast.tw9631556533992278970 : Nat := 0
def PySem.W.Fast.tw1218958505326898545 : Nat := 0
def PySem.W.Fast.tw6884550205039092469 : Nat := 0
def PySem.W.Fast.tw13680689740765246831 : Nat := 0
def PySem.W.Fast.tw10640231909104008575 : Nat := 0
def PySem.W.Fast.tw6852263092918754397 : Nat := 0
def PySem.W.Fast.tw6892322189055999731 : Nat := 0
def PySem.W.Fast.tw6970936777739509867 : Nat := 0
def PySem.W.Fast.tw10909577834349852918 : Nat := 0
open PySem PySem.W PyProof.Rows
set_option maxRecDepth 100000 in
set_option maxHeartbeats 0 in
theorem PySem.Challenge.cw_onechoice_k04_whole_one_choice_holds : PySem.Challenge.rw_onechoice_k04_whole_one_choice.Holds := by
 w_on; o_law; k_head; (case hw => w_witness2)
 k_fill
 refine My.walk (l := PySem.Challenge.rw_onechoice_k04_whole_one_choice) rfl rfl (fun w h Y => PySem.W.kIn_of Y) ?F
 case F =>
  intro w mg fa h KX G hmg
  refine' My.all_mk KX G hmg ?CP ?pP ?hP ?oP ?sP ?mP ?kP ?nP0 ?nP1 ?CA ?pA ?hA ?oA ?sA ?mA ?kA ?nA0 ?nA1 ?nA2 ?nA3 ?nA4 ?nA5 ?nA6 ?nA7 ?CV ?pV ?hV ?oV ?sV ?mV ?kV ?nV0 ?nV1 ?nV2 ?CR ?pR ?hR ?oR ?sR ?mR ?kR ?nR0 ?nR1 ?nR2 ?nR3 ?a0 ?l0 ?c0 ?k0 ?a1 ?i1 ?l1 ?c1 ?k1 ?a2 ?i2 ?l2 ?c2 ?k2 ?a3 ?i3 ?l3 ?c3 ?k3 ?a4 ?l4 ?c4 ?k4 ?a5 ?i5 ?l5 ?c5 ?k5 ?a6 ?i6 ?l6 ?c6 ?k6 ?a7 ?i7 ?l7 ?c7 ?k7 ?a8 ?i8 ?l8 ?c8 ?k8 ?a9 ?i9 ?l9 ?c9 ?k9 ?a10 ?i10 ?l10 ?c10 ?k10 ?a11 ?i11 ?l11 ?c11 ?k11 ?a12 ?i12 ?l12 ?c12 ?k12 ?a13 ?i13 ?l13 ?c13 ?k13 ?a14 ?i14 ?l14 ?c14 ?k14 ?a15 ?l15 ?c15 ?k15 ?a16 ?i16 ?l16 ?c16 ?k16 ?a17 ?l17 ?c17 ?k17 ?a18 ?l18 ?c18 ?k18 ?a19 ?l19 ?c19 ?k19 ?a20 ?l20 ?c20 ?k20 ?a21 ?i21 ?l21 ?c21 ?k21 ?a22 ?i22 ?l22 ?c22 ?k22 ?a23 ?i23 ?l23 ?c23 ?k23 ?a24 ?i24 ?l24 ?c24 ?k24 ?a25 ?i25 ?l25 ?c25 ?k25 ?a26 ?i26 ?l26 ?c26 ?k26 ?a27 ?i27 ?l27 ?c27 ?k27 ?a28 ?i28 ?l28 ?c28 ?k28 ?a29 ?l29 ?c29 ?k29 ?a30 ?i30 ?l30 ?c30 ?k30 ?a31 ?l31 ?c31 ?k31 ?a32 ?l32 ?c32 ?k32 ?a33 ?l33 ?c33 ?k33 ?a34 ?l34 ?c34 ?k34 ?a35 ?l35 ?c35 ?k35 ?a36 ?l36 ?c36 ?k36 ?a37 ?l37 ?c37 ?k37 ?a38 ?l38 ?c38 ?k38 ?a39 ?l39 ?c39 ?k39 ?a40 ?i40 ?l40 ?c40 ?k40 ?a41 ?l41 ?c41 ?k41 ?z_all ?z_enumerate ?z_int ?z_isinstance ?z_len ?z_list ?z_max ?z_range ?z_set ?z_sorted ?z_tuple ?y_ASK ?y_PREPARE ?y_PROMISE ?y_VOTE
  (case CP => k_is)
  (case pP => k_is)
  (case hP => k_is)
  (case oP => k_is)
  (case sP => k_is)
  (case mP => k_is)
  (case kP => k_is)
  (case nP0 => k_is)
  (case nP1 => k_is)
  (case CA => k_is)
  (case pA => k_is)
  (case hA => k_is)
  (case oA => k_is)
  (case sA => k_is)
  (case mA => k_is)
  (case kA => k_is)
  (case nA0 => k_is)
  (case nA1 => k_is)
  (case nA2 => k_is)
  (case nA3 => k_is)
  (case nA4 => k_is)
  (case nA5 => k_is)
  (case nA6 => k_is)
  (case nA7 => k_is)
  (case CV => k_is)
  (case pV => k_is)
  (case hV => k_is)
  (case oV => k_is)
  (case sV => k_is)
  (case mV => k_is)
  (case kV => k_is)
  (case nV0 => k_is)
  (case nV1 => k_is)
  (case nV2 => k_is)
  (case CR => k_is)
  (case pR => k_is)
  (case hR => k_is)
  (case oR => k_is)
  (case sR => k_is)
  (case mR => k_is)
  (case kR => k_is)
  (case nR0 => k_is)
  (case nR1 => k_is)
  (case nR2 => k_is)
  (case nR3 => k_is)
  (case a0 => k_is)
  (case l0 => k_is)
  (case c0 => k_is)
  (case k0 => k_is)
  (case a1 => k_is)
  (case i1 => k_is)
  (case l1 => k_is)
  (case c1 => k_is)
  (case k1 => k_is)
  (case a2 => k_is)
  (case i2 => k_is)
  (case l2 => k_is)
  (case c2 => k_is)
  (case k2 => k_is)
  (case a3 => k_is)
  (case i3 => k_is)
  (case l3 => k_is)
  (case c3 => k_is)
  (case k3 => k_is)
  (case a4 => k_is)
  (case l4 => k_is)
  (case c4 => k_is)
  (case k4 => k_is)
  (case a5 => k_is)
  (case i5 => k_is)
  (case l5 => k_is)
  (case c5 => k_is)
  (case k5 => k_is)
  (case a6 => k_is)
  (case i6 => k_is)
  (case l6 => k_is)
  (case c6 => k_is)
  (case k6 => k_is)
  (case a7 => k_is)
  (case i7 => k_is)
  (case l7 => k_is)
  (case c7 => k_is)
  (case k7 => k_is)
  (case a8 => k_is)
  (case i8 => k_is)
  (case l8 => k_is)
  (case c8 => k_is)
  (case k8 => k_is)
  (case a9 => k_is)
  (case i9 => k_is)
  (case l9 => k_is)
  (case c9 => k_is)
  (case k9 => k_is)
  (case a10 => k_is)
  (case i10 => k_is)
  (case l10 => k_is)
  (case c10 => k_is)
  (case k10 => k_is)
  (case a11 => k_is)
  (case i11 => k_is)
  (case l11 => k_is)
  (case c11 => k_is)
  (case k11 => k_is)
  (case a12 => k_is)
  (case i12 => k_is)
  (case l12 => k_is)
  (case c12 => k_is)
  (case k12 => k_is)
  (case a13 => k_is)
  (case i13 => k_is)
  (case l13 => k_is)
  (case c13 => k_is)
  (case k13 => k_is)
  (case a14 => k_is)
  (case i14 => k_is)
  (case l14 => k_is)
  (case c14 => k_is)
  (case k14 => k_is)
  (case a15 => k_is)
  (case l15 => k_is)
  (case c15 => k_is)
  (case k15 => k_is)
  (case a16 => k_is)
  (case i16 => k_is)
  (case l16 => k_is)
  (case c16 => k_is)
  (case k16 => k_is)
  (case a17 => k_is)
  (case l17 => k_is)
  (case c17 => k_is)
  (case k17 => k_is)
  (case a18 => k_is)
  (case l18 => k_is)
  (case c18 => k_is)
  (case k18 => k_is)
  (case a19 => k_is)
  (case l19 => k_is)
  (case c19 => k_is)
  (case k19 => k_is)
  (case a20 => k_is)
  (case l20 => k_is)
  (case c20 => k_is)
  (case k20 => k_is)
  (case a21 => k_is)
  (case i21 => k_is)
  (case l21 => k_is)
  (case c21 => k_is)
  (case k21 => k_is)
  (case a22 => k_is)
  (case i22 => k_is)
  (case l22 => k_is)
  (case c22 => k_is)
  (case k22 => k_is)
  (case a23 => k_is)
  (case i23 => k_is)
  (case l23 => k_is)
  (case c23 => k_is)
  (case k23 => k_is)
  (case a24 => k_is)
  (case i24 => k_is)
  (case l24 => k_is)
  (case c24 => k_is)
  (case k24 => k_is)
  (case a25 => k_is)
  (case i25 => k_is)
  (case l25 => k_is)
  (case c25 => k_is)
  (case k25 => k_is)
  (case a26 => k_is)
  (case i26 => k_is)
  (case l26 => k_is)
  (case c26 => k_is)
  (case k26 => k_is)
  (case a27 => k_is)
  (case i27 => k_is)
  (case l27 => k_is)
  (case c27 => k_is)
  (case k27 => k_is)
  (case a28 => k_is)
  (case i28 => k_is)
  (case l28 => k_is)
  (case c28 => k_is)
  (case k28 => k_is)
  (case a29 => k_is)
  (case l29 => k_is)
  (case c29 => k_is)
  (case k29 => k_is)
  (case a30 => k_is)
  (case i30 => k_is)
  (case l30 => k_is)
  (case c30 => k_is)
  (case k30 => k_is)
  (case a31 => k_is)
  (case l31 => k_is)
  (case c31 => k_is)
  (case k31 => k_is)
  (case a32 => k_is)
  (case l32 => k_is)
  (case c32 => k_is)
  (case k32 => k_is)
  (case a33 => k_is)
  (case l33 => k_is)
  (case c33 => k_is)
  (case k33 => k_is)
  (case a34 => k_is)
  (case l34 => k_is)
  (case c34 => k_is)
  (case k34 => k_is)
  (case a35 => k_is)
  (case l35 => k_is)
  (case c35 => k_is)
  (case k35 => k_is)
  (case a36 => k_is)
  (case l36 => k_is)
  (case c36 => k_is)
  (case k36 => k_is)
  (case a37 => k_is)
  (case l37 => k_is)
  (case c37 => k_is)
  (case k37 => k_is)
  (case a38 => k_is)
  (case l38 => k_is)
  (case c38 => k_is)
  (case k38 => k_is)
  (case a39 => k_is)
  (case l39 => k_is)
  (case c39 => k_is)
  (case k39 => k_is)
  (case a40 => k_is)
  (case i40 => k_is)
  (case l40 => k_is)
  (case c40 => k_is)
  (case k40 => k_is)
  (case a41 => k_is)
  (case l41 => k_is)
  (case c41 => k_is)
  (case k41 => k_is)
  (case z_all => k_is)
  (case z_enumerate => k_is)
  (case z_int => k_is)
  (case z_isinstance => k_is)
  (case z_len => k_is)
  (case z_list => k_is)
  (case z_max => k_is)
  (case z_range => k_is)
  (case z_set => k_is)
  (case z_sorted => k_is)
  (case z_tuple => k_is)
  (case y_ASK => k_is)
  (case y_PREPARE => k_is)
  (case y_PROMISE => k_is)
  (case y_VOTE => k_is)