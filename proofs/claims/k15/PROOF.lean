import PyProof.Rows.All
import Wide.All
import OpenK.AllK
import Wide.FinOn
import HandS.ForMost
import KE.GoesEnum
import HandS.Codes
import HandS.IsInst
import HandS.Zip
import HandS.TupAny
import HandS.Deep
import HandS.TupSets
import HandS.Conv
import HandS.Walk
import HandS.SortInts
import HandS.TupMul
import KE.GoesZip
import HandS.SetFor
import HandS.Comp
import HandS.Set
import HandS.SetKeys
import HandS.SetBool
import PyProof.Rows.SortShellAny
import PyProof.Rows.SortStr
import HandS.NamedTupSort
import HandS.TryOnly
import HandS.OwnEq
import HandS.TupLe
import PySem.Challenge.RW_sameforms_k15_whole_tables_made
set_option Elab.async false
set_option linter.all false
set_option maxRecDepth 100000
namespace Xci
open PySem PySem.Spec PyProof.Rows L2
/-- what a tuple's walk begins with, and what counts it -/
def tupleWalkO (t : Addr) : Obj := { cls := .type "tuple_iterator", data := .fields #[.ref t, .int 0 0] }
def countO (walk : Addr) : Obj := { cls := .type "enumerate", data := .fields #[.none, .bool false, .ref walk, rawInt 0, .none, .none] }
abbrev counted (h : Heap) (t : Addr) : Heap := (h.push (tupleWalkO t)).push (countO h.objs.size)
theorem counted_kept {h : Heap} {t b : Addr} {o : Obj} (q : h.get? b = some o) : (counted h t).get? b = some o :=
  Heap.get?_push_of_some _ (Heap.get?_push_of_some _ q)
theorem counted_walk {h : Heap} {t : Addr} : (counted h t).IsTupleIter h.objs.size t 0 :=
  ⟨tupleWalkO t, Heap.get?_push_of_some _ (Heap.get?_push_size _ rfl), rfl, rfl⟩
theorem counted_at {h : Heap} {t : Addr} : IsEnum (counted h t) (h.objs.size + 1) h.objs.size 0 .none := by
  have q : (counted h t).get? (h.push (tupleWalkO t)).objs.size = some (countO h.objs.size) := Heap.get?_push_size _ rfl
  rw [Heap.size_push] at q
  exact q
set_option maxHeartbeats 1000000 in
theorem count_new (t : Addr) (items : Array Value) : Meets (Builtin.«enumerate.__new__» ⟨[.type "enumerate", .ref t], []⟩)
    (fun _ R s => s.heap.IsTuple t items ∧ R (.ok (.ret (.ref (s.heap.push (tupleWalkO t)).objs.size))) { s with heap := counted s.heap t }) :=
  .of_wp fun prog w A R s hs => by
    cases s
    have known := sub_enumerate
    have walk := fun {A' : Around} {E : Value → Shared → Prop} {Q : Value → Shared → Prop} (q : Q _ _) => (begins_tuple t items).iter prog w A' E _ Q hs.1 q
    wp_walk using walk
    refine wpAny_stack_any fun st => wpAny_pure ?_
    split
    case h_1 c _ _ _ _ _ => cases (c == Value.type "enumerate") <;> (wp_walk using walk; exact ⟨_, rfl, hs.2⟩)
    all_goals (wp_walk using walk; exact ⟨_, rfl, hs.2⟩)
theorem call_count {P : Program} {w : World} {A : Around} {E : Value → Shared → Prop} {s : Shared} {t : Addr} {items : Array Value} {Q : Value → Shared → Prop} (p : s.heap.IsTuple t items)
    (q : Q (.ref (s.heap.objs.size + 1)) { s with heap := counted s.heap t }) : wpAny (model P w) A (call (.type "enumerate") [.ref t]) Q E s := by
  refine callType_new F.called_enumerate (by decide) (F.typeCall_enumerate_1 _) (F.newCall_enumerate_1 _) (F.args_object_init_2 · _) F.entry_enumerate_new (count_new t items) ⟨p, ?_⟩
  rw [Heap.size_push]
  exact ⟨⟨_, counted_at, rfl⟩, q⟩
/-- item by item through the tuple at a, each told with its number in a new pair -/
def IteT (K : PySem.W.Frag) (a : Addr) : It where
  go i H := ∃ (xs : List V) (x : V), SqT K H a xs ∧ xs[i]? = some x
  yld i H v H' := ∃ T x, v = .ref T ∧ H T = none ∧ H' = upd H T (.tup [.int (i : Nat), x]) ∧ ∀ xs, SqT K H a xs → xs[i]? = some x
  stop i H := ∃ xs : List V, SqT K H a xs ∧ xs.length = i
/-- the walk stands ahead of number i -/
def StandsT (a e it : Addr) (i : Nat) (h : Heap) : Prop := (∃ old, IsEnum h e it (i : Int) old) ∧ h.IsTupleIter it a i
theorem turn_enumT {P : Program} {w : World} {K : PySem.W.Frag} {elts : List Expr} {kk : Nat} {tpos : Pos} {a e it : Addr} (h1 : a ≠ it) (h2 : a ≠ e) (h3 : e ≠ it) :
    Turn P w K (.Tuple elts kk tpos) (IteT K a) [e, it] e (StandsT a e it) where
  mem := List.mem_cons_self
  self A i s Q E st q := by
    obtain ⟨⟨_, at0⟩, _⟩ := st
    exact wpAny_pyIter_enum at0 q
  keep i h h' st k := by
    obtain ⟨⟨v, at0⟩, at1⟩ := st
    exact ⟨⟨v, k e List.mem_cons_self _ at0⟩, at1.at fun o => k it (List.mem_cons_of_mem _ List.mem_cons_self) o⟩
  obj i h st b hb := by
    obtain ⟨⟨_, at0⟩, o, at1, _, dat⟩ := st
    rcases List.mem_cons.mp hb with rfl | hb
    · exact ⟨_, at0, nofun⟩
    · cases List.mem_singleton.mp hb
      exact ⟨o, at1, fun v z => nomatch dat.symm.trans z⟩
  item X eP eW eK calm i pins s σ H E I free st now := by
    subst eP; subst eW; subst eK
    obtain ⟨xs, x, sq, hx⟩ := now
    obtain ⟨its, vals, tup, _⟩ := I.tuple sq
    obtain ⟨u, hu, ru⟩ := vals.get hx
    have W := WalksT.enumerateD (Draws.tuple (prog := X.prog) (w := X.w) (A := X.A.in1) (show X.A.in1.handled = none from I.ok.hd calm) it a h1 its.toArray) e h3
      (fun z => (List.mem_cons.mp z).elim h3 fun z => h2 (List.mem_singleton.mp z).symm) List.mem_cons_self
    refine W.item i s _ E (by rw [List.size_toArray]; exact (List.getElem?_eq_some_iff.mp hu).1) ⟨st.1, st.2, tup⟩ fun T row h' tk told hT rowT mid kept => ⟨_, rfl, W.go elts kk tpos i T _ _ E mid fun h'' st' kept' => ?_⟩
    obtain ⟨t, y, hy, rfl⟩ := told
    obtain rfl : y = u := Option.some.inj (hy.symm.trans (by rw [List.getElem?_toArray]; exact hu))
    have out := W.apart i T h' mid
    have row'' : h''.IsTuple T #[.int (i : Int) t, y] := rowT.at fun o => kept' T o out
    have J := I.turnedNew (t' := tk) (fun b o nb q => kept' b o nb (kept b o nb q)) free hT (ob := .tup [.int (i : Int), x]) ⟨by show 2 ≤ sizeLine; decide, _, .cons ⟨t, rfl⟩ (.cons ru .nil), row''⟩
    refine ⟨.ref T, _, J, rfl, ⟨T, x, rfl, I.hok.fresh hT, rfl, fun ys sq' => I.tuple_inj sq' sq ▸ hx⟩, ⟨?_, st'.2.1⟩, fun b hb => ?_⟩
    · obtain ⟨⟨v, z⟩, _⟩ := st'
      exact ⟨v, z⟩
    · rw [upd_ne fun z : b = T => out (z ▸ hb)]
      exact (free b hb).1
  done X eP eW eK calm i pins s σ H E I free st now := by
    subst eP; subst eW; subst eK
    obtain ⟨xs, sq, rfl⟩ := now
    obtain ⟨its, vals, tup, _⟩ := I.tuple sq
    obtain ⟨⟨v, at0⟩, at1⟩ := st
    rw [vals.length, ← List.size_toArray] at at0 at1
    obtain ⟨n, l, c1, c2, c3, c4⟩ := free it (List.mem_cons_of_mem _ List.mem_cons_self)
    exact wpAny_pyNext_enum_endD (Draws.tuple (prog := X.prog) (w := X.w) (A := X.A.in1) (show X.A.in1.handled = none from I.ok.hd calm) it a h1 its.toArray) at0 ⟨at1, tup⟩ fun h' k => ⟨rfl, I.turned (t' := s.toks) k n l c2 c3 c4⟩
/-- enumerate(a tuple) -/
def iEnumT (K : PySem.W.Frag) (ta : TA) : TI := fun σ H R => ta σ H fun vs H1 => ∃ a xs, vs = [.ref a] ∧ SqT K H1 a xs ∧ R (IteT K a) H1
theorem pi_enumT {X : Cx} {e : Expr} {ta : TA} {p pos tpos : Pos} {elts : List Expr} {kk : Nat} (hg : Gl X "enumerate") (hm : X.mg "enumerate" = none) (ha : PA X [e] ta) (hs : starEach [e] X.env = [(false, eval e X.env)] := by rfl) :
    PI X (.Tuple elts kk tpos) (.Call (.Name "enumerate" p) [e] [] pos) (iEnumT X.K ta) where
  run pins s σ H R I h := Call_ (ld_blt I hg hm boot_enumerate (PyProof.Rows.callWith_type1 (thn (ha.run pos pins s σ H _ I h) fun us s1 ⟨vs, H1, I1, rs, a, xs, one, sq, q⟩ => by
    subst one
    rw [Vals.ref1 rs]
    obtain ⟨its, _, tup, _⟩ := I1.tuple sq
    obtain ⟨o, lo, _⟩ := id tup
    have la := Heap.lt_size lo
    refine call_count tup (wpAny_pyIter_enum counted_at ⟨s1.heap.objs.size + 1, [s1.heap.objs.size + 1, s1.heap.objs.size], StandsT a _ _, _, H1, rfl, I1.kept (t' := s1.toks) fun _ _ => counted_kept,
      turn_enumT (Nat.ne_of_lt la) (Nat.ne_of_lt (Nat.lt_succ_of_lt la)) (Nat.succ_ne_self _), ⟨⟨_, counted_at⟩, counted_walk⟩, fun b hb => ?_, q⟩)
    have lb : s1.heap.objs.size ≤ b := (List.mem_cons.mp hb).elim (fun z => z ▸ Nat.le_succ _) fun z => (List.mem_singleton.mp z) ▸ Nat.le_refl _
    exact I1.fpOk lb (I1.hok.fresh lb)) hs rfl))
end Xci

namespace Xci
open PySem PySem.Spec PyProof.Rows L2
section
variable {P : Program} {w : World} {K : PySem.W.Frag} {mg : Str → Option Value} {base : Heap}
/-- what stands under the name x keeps the promise sp -/
structure Has (P : Program) (w : World) (K : PySem.W.Frag) (mg : Str → Option Value) (base : Heap) (x : Str) (ps : List Str) (k : Nat) (sp : Sp) : Prop where
  ex : ∃ (f : Addr) (fd : FuncData), FnOk P w K mg base CX0 k f fd ps sp ∧ mg x = some (.ref f) ∧ PySem.W.keepIn K (.ref f) = true ∧ Binds K fd ps []
end
theorem pe_callH {X : Cx} {x : Str} {ps : List Str} {k : Nat} {sp : Sp} {e : Expr} {es : List Expr} {t : TA} {p pos : Pos} (h : Has X.prog X.w X.K X.mg X.base x ps k sp) (hr : Room k X.A) (hg : Gl X x)
    (ha : PA X (e :: es) t) (hdb : (x == ("__debug__" : Str)) = false := by decide) (he : starEach (e :: es) X.env = (false, eval e X.env) :: starEach es X.env := by rfl) (hpl : (backTo pos (starEach es X.env)).any (·.1) = false := by rfl) :
    PE X (.Call (.Name x p) (e :: es) [] pos) (tCall sp [] E0 t) := by
  obtain ⟨f, fd, F, m, kp, b⟩ := h.ex
  exact pe_call F hr hg m kp b .nil pass0 ha hdb he hpl
/-- the class that stands under the name x, its __init__ keeping the promise sp -/
structure HasC (P : Program) (w : World) (K : PySem.W.Frag) (mg : Str → Option Value) (base : Heap) (x : Str) (C : Addr) (ps : List Str) (k : Nat) (sp : Sp) : Prop where
  ex : ∃ (f : Addr) (fd : FuncData), FnOk P w K mg base CX0 k f fd ps sp ∧ L2.Mk K C f ∧ mg x = some (.ref C) ∧ Binds K fd ps []
theorem pe_makeH {X : Cx} {x : Str} {C : Addr} {ps : List Str} {k : Nat} {sp : Sp} {e : Expr} {es : List Expr} {t : TA} {p pos : Pos} (h : HasC X.prog X.w X.K X.mg X.base x C ps k sp) (hr : Room (k + 1) X.A) (hg : Gl X x)
    (ha : PA X (e :: es) t) (hdb : (x == ("__debug__" : Str)) = false := by decide) (he : starEach (e :: es) X.env = (false, eval e X.env) :: starEach es X.env := by rfl) (hpl : (backTo pos (starEach es X.env)).any (·.1) = false := by rfl) :
    PE X (.Call (.Name x p) (e :: es) [] pos) (tMake C sp [] E0 t) := by
  obtain ⟨f, fd, F, M, m, b⟩ := h.ex
  exact pe_make M F hr hg m b .nil pass0 ha hdb he hpl
/-- all but what stands at a is kept -/
def Fr (a : Addr) (H H' : Hp) : Prop := ∀ b o, H b = some o → b ≠ a → H' b = some o
theorem Fr.refl (a : Addr) (H : Hp) : Fr a H H := fun _ _ h _ => h
theorem Fr.trans {a : Addr} {H H1 H2 : Hp} (f : Fr a H H1) (g : Fr a H1 H2) : Fr a H H2 := fun b o h n => g b o (f b o h n) n
theorem Fr.same {a : Addr} {H H' : Hp} (f : Same H H') : Fr a H H' := fun b o h _ => f b o h
theorem Fr.at {a : Addr} {H : Hp} {o : HO} : Fr a H (upd H a o) := fun b u h n => by rw [upd_ne n]; exact h
theorem Fr.new {a p : Addr} {H : Hp} {o : HO} (h : H p = Option.none) : Fr a H (upd H p o) := fun b u e _ => by rw [upd_ne (ne_of_none e h)]; exact e
theorem Same.new {p : Addr} {H : Hp} {o : HO} (h : H p = Option.none) : Same H (upd H p o) := fun b u e => by rw [upd_ne (ne_of_none e h)]; exact e
/-- an address that stood nowhere before, behind a frame that keeps all but a -/
theorem Fr.free {a : Addr} {H H' : Hp} (f : Fr a H H') {o : HO} (ha : H a = some o) {p : Addr} (h : H' p = Option.none) (ha' : ∃ o', H' a = some o') : H p = Option.none := by
  cases q : H p with
  | none => rfl
  | some u =>
    by_cases e : p = a
    · subst e
      obtain ⟨o', z⟩ := ha'
      rw [z] at h; cases h
    · rw [f p u q e] at h; cases h
/-- the tuples are kept -/
def TFr (H H' : Hp) : Prop := ∀ p xs, H p = some (.tup xs) → H' p = some (.tup xs)
theorem TFr.refl (H : Hp) : TFr H H := fun _ _ h => h
theorem TFr.trans {H H1 H2 : Hp} (f : TFr H H1) (g : TFr H1 H2) : TFr H H2 := fun p xs h => g p xs (f p xs h)
theorem TFr.same {H H' : Hp} (f : Same H H') : TFr H H' := fun p xs h => f p _ h
theorem TFr.new {p : Addr} {H : Hp} {o : HO} (h : H p = Option.none) : TFr H (upd H p o) := TFr.same (Same.new h)
theorem TFr.lst {p : Addr} {H : Hp} {o : HO} {ys : List V} (h : H p = some (.lst ys)) : TFr H (upd H p o) := fun q xs e => by
  rw [upd_ne (ne_of e h (by intro z; cases z))]; exact e
theorem TFr.fr {a : Addr} {H H' : Hp} {ys : List V} (h : H a = some (.lst ys)) (f : Fr a H H') : TFr H H' := fun q xs e => f q _ e (ne_of e h (by intro z; cases z))
/-- v is a tuple of xs -/
def Tup (H : Hp) (v : V) (xs : List V) : Prop := ∃ p, v = .ref p ∧ H p = some (.tup xs)
theorem Tup.keep {H H' : Hp} {v : V} {xs : List V} (f : TFr H H') (t : Tup H v xs) : Tup H' v xs := by
  obtain ⟨p, e, h⟩ := t
  exact ⟨p, e, f p xs h⟩
/-- the deck that the law draws from, and its own list at l: nothing is known of its five items but that the numbers are in bounds -/
def Deck (H : Hp) (a l : Addr) : Prop := ∃ (ns : List Int) (i c n s : Int), H a = some (.lst [.ref l, .int i, .int c, .int n, .int s]) ∧ H l = some (.lst (ns.map V.int)) ∧ a ≠ l ∧ (∀ z ∈ ns, 0 ≤ z) ∧ 0 ≤ i ∧ i ≤ (ns.length : Int) ∧ 0 ≤ c ∧ 0 ≤ s ∧ s < 2147483647
theorem Deck.is {H : Hp} {a l : Addr} (d : Deck H a l) : ∃ ys, H a = some (.lst ys) := by
  obtain ⟨ns, i, c, n, s, h, _⟩ := d
  exact ⟨_, h⟩
theorem Deck.is' {H : Hp} {a l : Addr} (d : Deck H a l) : ∃ ys, H l = some (.lst ys) := by
  obtain ⟨ns, i, c, n, s, _, h, _⟩ := d
  exact ⟨_, h⟩
theorem Deck.tfr {H H' : Hp} {a l : Addr} (d : Deck H a l) (f : Fr a H H') : TFr H H' := by
  obtain ⟨ys, h⟩ := d.is
  exact TFr.fr h f
theorem Deck.keep {H H' : Hp} {a l : Addr} (d : Deck H a l) (f : Same H H') : Deck H' a l := by
  obtain ⟨ns, i, c, n, s, h, hl, r⟩ := d
  exact ⟨ns, i, c, n, s, f _ _ h, f _ _ hl, r⟩
/-- a store at q, which is neither the deck nor its list -/
theorem Deck.put {H : Hp} {a l q : Addr} {o : HO} (d : Deck H a l) (n1 : q ≠ a) (n2 : q ≠ l) : Deck (upd H q o) a l := by
  obtain ⟨ns, i, c, n, s, h, hl, r⟩ := d
  exact ⟨ns, i, c, n, s, by rw [upd_ne n1.symm]; exact h, by rw [upd_ne n2.symm]; exact hl, r⟩
/-- q was free when the deck stood -/
theorem Deck.ne {H : Hp} {a l q : Addr} (d : Deck H a l) (h : H q = Option.none) : q ≠ a := by
  obtain ⟨ys, z⟩ := d.is
  exact (ne_of_none z h).symm
theorem Deck.ne' {H : Hp} {a l q : Addr} (d : Deck H a l) (h : H q = Option.none) : q ≠ l := by
  obtain ⟨ys, z⟩ := d.is'
  exact (ne_of_none z h).symm
/-- what is free behind a draw was free ahead of it -/
theorem Deck.free {H H' : Hp} {a l q : Addr} (d : Deck H' a l) (f : Fr a H H') (h : H' q = Option.none) : H q = Option.none := by
  have n := d.ne h
  cases e : H q with
  | none => rfl
  | some u => rw [f q u e n] at h; cases h
def spTake : Sp := fun vs H Q _ => ∃ (a l : Addr) (m : Int), vs = [.ref a, .int m] ∧ Deck H a l ∧ 0 < m ∧ m < 1073741824 ∧ ∀ (d : Int) (H' : Hp), 0 ≤ d → d < m → Deck H' a l → Fr a H H' → (∀ b, b ≠ a → H' b = H b) → Q (.int d) H'
theorem pe_gint {X : Cx} {x : Str} {i : Int} {t : Tok} {pos : Pos} (hg : Gl X x) (hm : X.mg x = some (.int i t)) (hd : (x == ("__debug__" : Str)) = false := by decide) : PE X (.Name x pos) (tC (.int i)) := pe_glob (v := .int i) hg hm ⟨t, rfl⟩ hd
theorem walk_enumT {K : PySem.W.Frag} {a : Addr} {xs : List V} : Walk (IteT K a) xs.length (fun H => SqT K H a xs) (fun i H v H' => ∃ T x, v = .ref T ∧ H T = none ∧ H' = upd H T (.tup [.int (i : Nat), x]) ∧ xs[i]? = some x) :=
  ⟨fun i H hi q => ⟨xs, xs[i], q, List.getElem?_eq_getElem hi⟩, fun H q => ⟨xs, q, rfl⟩, fun i H v H' hi q ⟨T, x, e1, e2, e3, f⟩ => ⟨T, x, e1, e2, e3, f xs q⟩⟩
theorem call_lenK {X : Cx} : CallR X (.builtin "len") (rLen X.K) := call_len
def rTupOf (K : PySem.W.Frag) : List V → Hp → VK → Prop := fun xs H Q => ∃ p ys, xs = [.ref p] ∧ ((SqL K H p ys ∧ ∀ l, H l = none → Q (.ref l) (upd H l (.tup ys))) ∨ (SqT K H p ys ∧ Q (.ref p) H))
theorem call_tupleK {X : Cx} : CallR X (.type "tuple") (rTupOf X.K) := call_tuple_of
def rListOf (K : PySem.W.Frag) : List V → Hp → VK → Prop := fun xs H Q => ∃ p ys, xs = [.ref p] ∧ (SqL K H p ys ∨ SqT K H p ys) ∧ ∀ l, H l = none → Q (.ref l) (upd H l (.lst ys))
theorem call_listK {X : Cx} : CallR X (.type "list") (rListOf X.K) := call_list_of
theorem hu64 {A : Around} {k : Nat} (hr : Room k A) : A.units + 64 < cLine := by have := hr.un; omega
/-- the names that the top leaves to the built-ins -/
structure Txt (mg : Str → Option Value) : Prop where
  len : mg "len" = none
  int : mg "int" = none
  abs : mg "abs" = none
  list : mg "list" = none
  tuple : mg "tuple" = none
  range : mg "range" = none
  min : mg "min" = none
  isinstance : mg "isinstance" = none
  enumerate : mg "enumerate" = none
  bool : mg "bool" = none
  str : mg "str" = none
  all : mg "all" = none
  any : mg "any" = none
  sum : mg "sum" = none
  max : mg "max" = none
  sorted : mg "sorted" = none
  zip : mg "zip" = none
  set : mg "set" = none
end Xci

namespace Xci
open PySem PySem.Spec PyProof.Rows L2
/-- a set as it is made, nothing in it -/
abbrev emptyO (w : World) : Obj := { cls := .type "set", dict := none, data := .set #[] 0 (.fresh 0 0 (!w.params.followText "set-order")) }
section
variable {P : Program} {w : World} {A : Around} {E : Value → Shared → Prop} {s : Shared}
/-- a type that makes a thing and fills it; what the filling is checked for is the caller's to tell -/
theorem made_and_filled {T newId initId : String} {args : List Value} {Q Made : Value → Shared → Prop} (ft : TypeCalled T newId initId) (fits : checkTypeCall T ⟨args, []⟩ = pure ())
    (making : codeAny (model P w) A.in1 (.call (.builtin newId) ⟨.type T :: args, []⟩) (wants Made E) s)
    (filling : ∀ v s1, Made v s1 → s1.TypeIs v T ∧ codeAny (model P w) A.in1 (.call (.builtin initId) ⟨v :: args, []⟩) (wants (fun r s2 => r = .none ∧ Q v s2) E) s1) :
    wpAny (model P w) A (call (.type T) args) Q E s := by
  have order := ft.mro
  have maker := ft.made
  have self := ft.sub
  have apart := ft.notType
  have may := ft.canCreate
  obtain ⟨_, _, order⟩ := order
  refine wpAny_call (codeAny_of_tree (show wpAny _ _ (callAny (.type T) _) _ _ _ from wpAny_pure ⟨Code.quiet_builtin _ (by decide +kernel), codeAny_builtin F.entry_type_call ?_⟩))
  rw [Around.under_plain (weight_type_call_type T args []) rfl]
  repeat (any_goals (first | assumption | wp_step))
  refine codeAny_mono making fun r s1 mr => ?_
  match r, mr with
  | .ok (.ret v), mr =>
    obtain ⟨isT, fill⟩ := filling v s1 mr
    have where_ := ft.init.lookup
    have bound := ft.init.bind v
    repeat (any_goals (first | assumption | wp_step))
    refine codeAny_mono fill fun r2 s2 fr => ?_
    match r2, fr with
    | .ok (.ret r), fr =>
      obtain ⟨rfl, done⟩ := fr
      repeat (any_goals (first | assumption | wp_step))
    | .error _, fr => exact fr
  | .error _, mr => exact mr
set_option maxHeartbeats 3200000 in
/-- set(a tuple of tuples of ints): what is told of it is what the loop over the tuple's walk leaves -/
theorem set_of_tuple {t : Addr} {items : Array Value} (ks : List (Addr × List Int)) {Q : Value → Shared → Prop} (hh : A.handled = none) (p : s.heap.IsTuple t items) (row : items.toList = ks.map fun p => Value.ref p.1)
    (hk : ∀ p ∈ ks, IsT P w s.heap p.2 p.1) (few : ks.length < 64) (hu : A.units + 3 < cLine)
    (q : ∀ h' tk L es ep tb, SetTR P w h' s.heap.objs.size L es ep tb → (∀ x, x ∈ L.map (·.2) ↔ x ∈ ks.map (·.2)) → (∀ b o, s.heap.get? b = some o → h'.get? b = some o) → Q (.ref s.heap.objs.size) { s with heap := h', toks := tk }) :
    wpAny (model P w) A (call (.type "set") [.ref t]) Q E s := by
  refine made_and_filled F.called_set (F.typeCall_set_1 _) (code_set_led1 (Q₁ := fun v s1 => v = .ref s.heap.objs.size ∧ s1 = { s with heap := s.heap.push (emptyO w) }) (.ref t) ⟨rfl, rfl⟩) ?_
  rintro _ _ ⟨rfl, rfl⟩
  have new : (s.heap.push (emptyO w)).get? s.heap.objs.size = some (emptyO w) := Heap.get?_push_size _ rfl
  refine ⟨⟨_, new, rfl⟩, codeAny_call_builtin F.called_set.init.plain F.entry_set_init (check_set_init_1 ⟨_, new, rfl⟩ ?_)⟩
  have old : ∀ b o, s.heap.get? b = some o → (s.heap.push (emptyO w)).get? b = some o := fun b o => Heap.get?_push_of_some _
  have tup : (s.heap.push (emptyO w)).IsTuple t items := p.at fun o => old t o
  have noSet := F.sub_tuple_set
  have noFrozen := F.sub_tuple_frozenset
  have noDict : (Value.type "tuple" == Value.type "dict") = false := by decide
  obtain ⟨o, at0, c0, n0, d0⟩ := id tup
  obtain ⟨oc, od, odat, osl⟩ := o
  cases c0
  cases d0
  unfold Builtin.«set.__init__» noKeywords Builtin.Frozenset.updateFrom
  generalize iterates : pyIter = PI
  wp_walk
  subst iterates
  refine wpAny_pyIter_tuple tup ?_
  refine wpAny_bind (wpAny_runValue ?_)
  have size1 : (s.heap.push (emptyO w)).objs.size = s.heap.objs.size + 1 := Heap.size_push ..
  have lt := Heap.lt_size (p.choose_spec.1)
  have count : items.size = ks.length := by rw [← Array.length_toList, row, List.length_map]
  have nowhere : ∀ b, s.heap.objs.size ≤ b → s.heap.get? b = none := fun b hb => by
    cases z : s.heap.get? b with
    | none => rfl
    | some o => exact absurd (Heap.lt_size z) (Nat.not_lt.mpr hb)
  have W := (Walks.tuple (prog := P) (w := w) (A := A.in1.in1.in1) (show A.in1.in1.in1.handled = none from hh) (s.heap.objs.size + 1) t (Nat.ne_of_lt (Nat.lt_succ_of_lt lt)) items).toS
  show codeAny _ _ (.builtin "set.update.loop" ⟨[.ref s.heap.objs.size, .ref (s.heap.push (emptyO w)).objs.size], []⟩) _ _
  rw [size1]
  refine set_update_tups W s.heap.objs.size ?_ ks count few (fun i v e => ?_) s.heap hk (nowhere _ (Nat.le_refl _)) (fun b hb => nowhere b ?_) (by simpa using hu) (items.size - 0) 0 _ rfl (Nat.zero_le _) ?_ (fun b o e => ?_) ⟨[], _, _, _, setTR_fresh ?_, Got.zero ks⟩ fun s' L es ep tb moved R got kept => ?_
  · intro z
    rcases List.mem_cons.mp z with z | z
    · exact absurd z (Nat.ne_of_lt (Nat.lt_succ_self _))
    · exact absurd (List.mem_singleton.mp z) (Nat.ne_of_gt lt)
  · rw [← Array.getElem?_toList, row, List.getElem?_map] at e
    obtain ⟨y, hy, ey⟩ := Option.map_eq_some_iff.mp e
    exact ⟨y, hy, ey.symm⟩
  · rw [List.mem_singleton.mp hb]
    exact Nat.le_succ _
  · refine ⟨⟨{ cls := .type "tuple_iterator", data := .fields #[.ref t, .int 0 0] }, ?_, rfl, rfl⟩, tup.at fun o => Heap.get?_push_of_some _⟩
    rw [← size1]
    exact Heap.get?_push_size _ rfl
  · exact Heap.get?_push_of_some _ (old b o e)
  · exact Heap.get?_push_of_some _ new
  · rw [count] at got
    have members : ∀ x, x ∈ L.map (·.2) ↔ x ∈ ks.map (·.2) := fun x => by
      constructor
      · intro z
        obtain ⟨y, hy, ey⟩ := List.mem_map.mp z
        exact ey ▸ List.mem_map_of_mem (List.mem_of_mem_take (got.sub y hy))
      · intro z
        obtain ⟨y, hy, ey⟩ := List.mem_map.mp z
        exact ey ▸ got.all y (by rw [List.take_length]; exact hy)
    obtain ⟨h', g', d', tk', os'⟩ := s'
    obtain ⟨_, rfl, ed, eo, _⟩ := moved
    cases (show d' = s.drawn from ed)
    cases (show os' = s.os from eo)
    exact wpAny_pure (wpAny_pure ⟨rfl, q h' tk' L es ep tb R members kept⟩)
end
theorem fewer_of_twice {α : Type} : ∀ (l : List α), ¬ l.Nodup → ∃ m : List α, m.length < l.length ∧ ∀ x ∈ l, x ∈ m
  | [], h => absurd List.nodup_nil h
  | x :: r, h => by
    by_cases hx : x ∈ r
    · refine ⟨r, Nat.lt_succ_self _, fun y hy => ?_⟩
      rcases List.mem_cons.mp hy with e | z
      · rw [e]; exact hx
      · exact z
    · obtain ⟨m, h1, h2⟩ := fewer_of_twice r fun z => h (List.nodup_cons.mpr ⟨hx, z⟩)
      refine ⟨x :: m, Nat.succ_lt_succ h1, fun y hy => ?_⟩
      rcases List.mem_cons.mp hy with e | z
      · rw [e]; exact List.mem_cons_self
      · exact List.mem_cons_of_mem _ (h2 y z)
theorem fits_in {α : Type} [DecidableEq α] : ∀ (l m : List α), l.Nodup → (∀ x ∈ l, x ∈ m) → l.length ≤ m.length
  | [], _, _, _ => Nat.zero_le _
  | x :: r, m, h, s => by
    obtain ⟨h1, h2⟩ := List.nodup_cons.mp h
    have hm := s x List.mem_cons_self
    have ne : ∀ y ∈ r, y ≠ x := fun y hy e => by rw [e] at hy; exact h1 hy
    have k := fits_in r (m.erase x) h2 fun y hy => (List.mem_erase_of_ne (ne y hy)).mpr (s y (List.mem_cons_of_mem _ hy))
    rw [List.length_erase_of_mem hm] at k
    have : 0 < m.length := List.length_pos_of_mem hm
    show r.length + 1 ≤ _
    omega
theorem count_unlike {α : Type} [DecidableEq α] {l m : List α} (h : l.Nodup) (same : ∀ x, x ∈ l ↔ x ∈ m) : l.length ≤ m.length ∧ (l.length = m.length ↔ m.Nodup) := by
  refine ⟨fits_in l m h fun x => (same x).mp, fun e => ?_, fun hm => ?_⟩
  · refine Decidable.byContradiction fun twice => ?_
    obtain ⟨k, k1, k2⟩ := fewer_of_twice m twice
    have := fits_in l k h fun x hx => k2 x ((same x).mp hx)
    omega
  · exact Nat.le_antisymm (fits_in l m h fun x => (same x).mp) (fits_in m l hm fun x => (same x).mpr)
/-- len(set(x)), x a tuple of tuples of ints: how many unlike ones stand in it -/
def tLenSetT (K : PySem.W.Frag) (ta : TE) : TE := fun σ H Q => ta σ H fun x H1 => ∃ (t : Addr) (ks : List (Addr × List Int)), x = .ref t ∧ SqT K H1 t (ks.map fun p => .ref p.1) ∧ (∀ p ∈ ks, SqT K H1 p.1 (p.2.map V.int)) ∧ ks.length < 64 ∧
  ∀ n : Nat, n ≤ ks.length → (n = ks.length ↔ (ks.map (·.2)).Nodup) → Q (.int n) H1
theorem pe_lenSetT {X : Cx} {a : Expr} {ta : TE} {p p2 q pos : Pos} (hc : X.calm = true) (hu : X.A.units + 64 < cLine) (hg : Gl X "len") (hm : X.mg "len" = none) (hg2 : Gl X "set") (hm2 : X.mg "set" = none) (ha : PE X a ta)
    (na : starEach [a] X.env = (false, eval a X.env) :: starEach [] X.env := by rfl) : PE X (.Call (.Name "len" p) [.Call (.Name "set" p2) [a] [] q] [] pos) (tLenSetT X.K ta) where
  run pins s σ H Q I h := by
    refine Call_ (ld_blt I hg hm PySem.boot_len (callWith_builtin1 (args_cons (Call_ (ld_blt I hg2 hm2 boot_set (callWith_type1 (args_cons (thn (ha.run pins s σ H _ I h) fun v s1 ⟨x, H1, I1, rv, t, ks, one, sq, each, few, k⟩ => args_nil ?_) na) na rfl))) rfl) rfl rfl))
    subst one
    cases rv
    obtain ⟨its, vals, tup, _⟩ := I1.tuple sq
    refine set_of_tuple (P := X.prog) (w := X.w) ks (I1.ok.hd hc) tup (refs_of_vals vals) (fun p hp => I1.isT (each p hp)) few (by omega) fun h' tk L es ep tb R members kept => args_nil ?_
    obtain ⟨o, at0, exact_, dat⟩ := R.ob
    have n1 := count_unlike R.nd members
    rw [List.length_map, List.length_map] at n1
    have n2 : es.size = L.length := R.size (s := ⟨h', s1.gens, s1.drawn, tk, s1.os⟩)
    have J : Inv X pins σ H1 { s1 with heap := h', toks := tk } := I1.kept kept
    refine call_len_set at0 exact_ dat (R.fits (s := ⟨h', s1.gens, s1.drawn, tk, s1.os⟩)) (by rw [n2]; omega) ⟨.int L.length, H1, J.tok _, ⟨_, by rw [n2]⟩, k _ n1.1 n1.2⟩
end Xci

namespace Xci
open PySem PySem.Spec PyProof.Rows L2
section
variable {κ : Type} [DecidableEq κ] {P : Program} {w : World} (kind : KeyKind P w κ)
/-- rows and table of a set whose members are told by S, n of them, any two rows unlike, and that can be walked -/
structure Laid (es : Array (Int × Value)) (t : SetTable) (S : κ → Bool) (n : Nat) : Prop where
  rows : ElemsOf kind es.toList
  told : ∀ k, S k = true ↔ ∃ e ∈ es.toList, kind.is k e.2 = true
  unlike : es.toList.Pairwise fun e f => ∀ k, kind.is k e.2 = true → kind.is k f.2 = false
  few : es.size < scanBound
  fits : t.fits es.size = true
  count : es.size = n
  rises : Ris t.place.toList
  ledger : w.params.followText "set-order" = true ∨ t.led = true
variable {kind}
theorem unlike_perm {l m : List (Int × Value)} (p : l.Perm m) (h : l.Pairwise fun e f => ∀ k, kind.is k e.2 = true → kind.is k f.2 = false) : m.Pairwise fun e f => ∀ k, kind.is k e.2 = true → kind.is k f.2 = false :=
  (p.pairwise_iff (fun {e f} q k hf => by
    cases z : kind.is k e.2 with
    | false => rfl
    | true => exact absurd hf (by rw [q k z]; exact Bool.false_ne_true))).mp h
/-- laid anew for another size -/
theorem Laid.again {es : Array (Int × Value)} {t : SetTable} {S : κ → Bool} {n : Nat} (L : Laid kind es t S n) (size : Nat) : Laid kind (relayAll t es size).1 (relayAll t es size).2.1 S n where
  rows := L.rows.perm (relayAll_perm t es size)
  told k := (L.told k).trans (by constructor <;> (rintro ⟨e, he, q⟩; exact ⟨e, by first | exact (relayAll_perm t es size).mem_iff.mpr he | exact (relayAll_perm t es size).mem_iff.mp he, q⟩))
  unlike := unlike_perm (relayAll_perm t es size).symm L.unlike
  few := by rw [← Array.length_toList, (relayAll_perm t es size).length_eq, Array.length_toList]; exact L.few
  fits := relayAll_fits t es size
  count := by rw [← Array.length_toList, (relayAll_perm t es size).length_eq, Array.length_toList]; exact L.count
  rises := relayAll_ris t es size
  ledger := L.ledger.imp id fun z => by rw [relayAll_led]; exact z
/-- one more row -/
theorem Laid.more {es : Array (Int × Value)} {t : SetTable} {S : κ → Bool} {n : Nat} {k : κ} {v : Value} (L : Laid kind es t S n) (is : kind.is k v = true) (scan : v.scannable = true) (no : S k = false) (room : n + 1 < scanBound) :
    Laid kind (layNew t es (kind.hash k) v).1 (layNew t es (kind.hash k) v).2.1 (fun j => S j || decide (j = k)) (n + 1) := by
  have p := layNew_perm t es (kind.hash k) v
  rw [Array.toList_push] at p
  have size : (layNew t es (kind.hash k) v).1.size = n + 1 := by
    rw [← Array.length_toList, p.length_eq, List.length_append, Array.length_toList, L.count] <;> rfl
  exact {
    rows := (L.rows.push is scan).perm p
    told := mem_push_iff is L.told p
    unlike := unlike_perm p.symm (List.pairwise_append.mpr ⟨L.unlike, List.pairwise_singleton .., fun e he f hf j hj => by
      rw [List.mem_singleton.mp hf]
      cases z : kind.is j v with
      | false => rfl
      | true =>
        have ek := kind.inj v j k z is
        rw [ek] at hj
        exact absurd ((L.told k).mpr ⟨e, he, hj⟩) (by rw [no]; exact Bool.false_ne_true)⟩)
    few := by rw [size]; exact room
    fits := layNew_fits t es (kind.hash k) v
    count := size
    rises := layNew_ris t es (kind.hash k) v L.rises
    ledger := L.ledger.imp id fun z => by rw [layNew_led]; exact z }
/-- the table may lose its plainness -/
theorem Laid.blunt {es : Array (Int × Value)} {t : SetTable} {S : κ → Bool} {n : Nat} (L : Laid kind es t S n) : Laid kind es { t with plain := false } S n :=
  ⟨L.rows, L.told, L.unlike, L.few, SetTable.fits_plain_off L.fits, L.count, L.rises, L.ledger⟩
variable (kind) in
/-- the set at a -/
def SetL (h : Heap) (a : Addr) (S : κ → Bool) (n : Nat) : Prop := ∃ o es ep t, h.get? a = some o ∧ o.ExactSet ∧ o.data = .set es ep t ∧ Laid kind es t S n
variable {A : Around} {E : Value → Shared → Prop} {s : Shared} {a : Addr} {S : κ → Bool} {n : Nat}
theorem SetL.keep {h h' : Heap} (R : SetL kind h a S n) (k : ∀ o, h.get? a = some o → h'.get? a = some o) : SetL kind h' a S n := by
  obtain ⟨o, es, ep, t, at0, r⟩ := R
  exact ⟨o, es, ep, t, k o at0, r⟩
/-- the rows written down, and the table made anew where it is full -/
theorem written {g : Bool → Sem Unit} (quiet : ∀ (b : Bool) (s1 : Shared) (R' : Unit → Shared → Prop), R' () s1 → wpAny (model P w) A (g b) R' E s1) {o : Obj} {es es' : Array (Int × Value)} {ep : Nat} {t t' : SetTable}
    (at0 : s.heap.get? a = some o) (exact_ : o.ExactSet) (dat : o.data = .set es ep t) (L : Laid kind es' t' S n) {dummy : Bool} {R : Option Bool → Shared → Prop}
    (end_ : ∀ h', Heap.SameBut a s.heap h' → SetL kind h' a S n → R (some true) { s with heap := h' }) :
    wpAny (model P w) A (do
        storeSet a es' t'
        if (!dummy && t'.tooFull) = true then do
            g (relayAll t' es' (SetTable.grown es'.size)).2.2
            storeSet a (relayAll t' es' (SetTable.grown es'.size)).1 (relayAll t' es' (SetTable.grown es'.size)).2.1
            pure (some true)
          else pure (some true)) R E s := by
  have at1 := store_at (es' := es') (t' := t') at0 dat
  have only := Heap.SameBut.update s.heap a (Obj.putSet es' t')
  have M := L.again (SetTable.grown es'.size)
  refine wpAny_bind (wpAny_storeSet_of at0 dat ?_ (fits_of_scanBound L.few))
  split
  · exact wpAny_bind (quiet _ _ _ (wpAny_bind (wpAny_storeSet_of at1 rfl (wpAny_pure (end_ _ (only.trans (Heap.SameBut.update _ a _)) ⟨_, _, _, _, store_at at1 rfl, exact_, rfl, M⟩)) (fits_of_scanBound M.few))))
  · exact wpAny_pure (end_ _ only ⟨_, _, _, _, at1, exact_, rfl, L⟩)
theorem SetL.add {k : κ} {v : Value} (is : kind.is k v = true) (scan : v.scannable = true) {Q : Bool → Shared → Prop} (R : SetL kind s.heap a S n) (room : n + 1 < scanBound)
    (q : ∀ h', Heap.SameBut a s.heap h' → SetL kind h' a (fun j => S j || decide (j = k)) (if S k = true then n else n + 1) → Q (!S k) { s with heap := h' }) :
    wpAny (model P w) A (setAddHashed a v (kind.hash k)) Q E s := by
  obtain ⟨o, es, ep, t, at0, exact_, dat, L⟩ := R
  have silent : ∀ (b : Bool) (s1 : Shared) (R' : Unit → Shared → Prop), R' () s1 → wpAny (model P w) A (match b with | true => rule "set.scan.the-table-gave-way" | false => pure ()) R' E s1 := fun b s1 R' z => by
    cases b
    · exact wpAny_pure z
    · exact wpAny_rule z
  unfold setAddHashed setAddHashedIn
  refine wpAny_holding (wpAny_bind (wpAny_setState_of at0 dat L.fits ?_))
  dsimp only
  rw [byScan_of scan L.few L.rows, if_pos rfl]
  unfold setAddByScan
  refine wpAny_bind (wpAny_bind (wpAny_rule (wpAny_bind (wpAny_setScan_of is at0 dat L.fits L.rows ?_))))
  cases met : List.findIdx? (fun e => kind.is k e.2) es.toList with
  | some j =>
    dsimp only
    obtain ⟨hj, pj, _⟩ := List.findIdx?_eq_some_iff_getElem.mp met
    have old : S k = true := (L.told k).mpr ⟨_, List.getElem_mem hj, pj⟩
    have same : (fun j => S j || decide (j = k)) = S := funext fun j => by
      by_cases e : j = k
      · rw [e, old] <;> rfl
      · rw [decide_eq_false e, Bool.or_false]
    have z := q s.heap (Heap.SameBut.refl a s.heap)
    rw [same, if_pos old, old] at z
    exact wpAny_pure (wpAny_pure (z ⟨o, es, ep, t, at0, exact_, dat, L⟩))
  | none =>
    dsimp only
    have no : S k = false := by
      cases z : S k with
      | false => rfl
      | true =>
        obtain ⟨e, he, p⟩ := (L.told k).mp z
        have c := List.findIdx?_eq_none_iff.mp met e he
        rw [p] at c
        cases c
    have M := L.more is scan no room
    rw [if_neg (by rw [no]; exact Bool.false_ne_true), no] at q
    generalize layNew t es (kind.hash k) v = lot at M ⊢
    obtain ⟨es1, t1, dummy, gave⟩ := lot
    dsimp only at M ⊢
    refine wpAny_bind (silent _ _ _ ?_)
    split
    · refine wpAny_bind ?_
      rw [hashByValue_scannable 8 scan]
      refine wpAny_pure ?_
      refine written (fun b s1 R' z => silent b s1 R' z) at0 exact_ dat (n := n + 1) (S := fun j => S j || decide (j = k)) ?_ fun h' only R => wpAny_pure (q h' only R)
      split
      · exact M
      · exact M.blunt
    · refine wpAny_bind (wpAny_pure ?_)
      rw [if_pos rfl]
      exact written (fun b s1 R' z => silent b s1 R' z) at0 exact_ dat M fun h' only R => wpAny_pure (q h' only R)
/-- set.add of one more -/
theorem SetL.call_add {k : κ} {v : Value} (is : kind.is k v = true) (scan : v.scannable = true) {Q : Value → Shared → Prop} (R : SetL kind s.heap a S n) (room : n + 1 < scanBound)
    (q : ∀ h', Heap.SameBut a s.heap h' → SetL kind h' a (fun j => S j || decide (j = k)) (if S k = true then n else n + 1) → Q .none { s with heap := h', toks := s.toks + 1 }) :
    wpAny (model P w) A (call (.builtin "set.add") [.ref a, v]) Q E s := by
  obtain ⟨o, _, _, _, at0, exact_, _, _⟩ := id R
  refine wpAny_call_entry F.slot_set_add ⟨o, at0, exact_.1⟩ F.entry_set_add ?_ (F.args_set_add_2 _ _)
  unfold Builtin.«set.add» Builtin.Frozenset.oneOther
  simp only [List.isEmpty_nil, bind_assoc]
  unfold Builtin.Frozenset.addrOf setAdd
  refine wpAny_bind (wpAny_pure (wpAny_bind (wpAny_pure (wpAny_bind (wpAny_holding (wpAny_bind (kind.pyHash is ?_)))))))
  exact SetL.add (s := { s with toks := s.toks + 1 }) is scan R room fun h' only M => wpAny_pure ⟨_, rfl, q h' only M⟩
/-- a set as it is made -/
theorem SetL.none {h : Heap} : SetL kind (h.push { cls := .type "set", dict := none, data := .set #[] 0 (.fresh 0 0 (!w.params.followText "set-order")) }) h.objs.size (fun _ => false) 0 := by
  refine ⟨_, _, _, _, Heap.get?_push_size _ rfl, ⟨rfl, rfl, rfl⟩, rfl, nofun, fun k => ⟨nofun, nofun⟩, List.Pairwise.nil, by decide, rfl, rfl, List.Pairwise.nil, ?_⟩
  cases z : w.params.followText "set-order"
  · exact .inr rfl
  · exact .inl rfl
end
section
variable {P : Program} {w : World} {A : Around} {E : Value → Shared → Prop} {s : Shared} {a : Addr} {S : Str → Bool} {n : Nat}
theorem texts_of : ∀ (us : List Value), (∀ u ∈ us, ∃ x t, u = Value.str x t) → ∃ xs, StrsAre us xs
  | [], _ => ⟨[], .nil⟩
  | u :: us, h => by
    obtain ⟨x, t, rfl⟩ := h u List.mem_cons_self
    obtain ⟨xs, r⟩ := texts_of us fun v hv => h v (List.mem_cons_of_mem _ hv)
    exact ⟨x :: xs, .cons x t r⟩
theorem strsAre_mem : ∀ {us : List Value} {xs : List Str}, StrsAre us xs → ∀ x, x ∈ xs ↔ ∃ t, Value.str x t ∈ us
  | _, _, .nil, x => by simp
  | _, _, .cons y t r, x => by
    have ih := strsAre_mem r x
    constructor
    · intro h
      rcases List.mem_cons.mp h with e | h
      · exact ⟨t, by rw [e]; exact List.mem_cons_self⟩
      · obtain ⟨t', h⟩ := ih.mp h
        exact ⟨t', List.mem_cons_of_mem _ h⟩
    · rintro ⟨t', h⟩
      rcases List.mem_cons.mp h with e | h
      · cases e
        exact List.mem_cons_self
      · exact List.mem_cons_of_mem _ (ih.mpr ⟨t', h⟩)
/-- sorted(a set of texts): its members, rising -/
theorem sorted_texts {Q : Value → Shared → Prop} (R : SetL (PySem.strKind P w) s.heap a S n) (hh : A.handled = none) (small : n < 64)
    (q : ∀ s' p (out : Array Value) (c : Nat) (xs : List Str), (∀ b o, s.heap.get? b = some o → s'.heap.get? b = some o) → s'.gens = s.gens → s'.os = s.os → s.heap.objs.size ≤ p →
      s'.heap.get? p = some (seqObj "list" out c) → StrsAre out.toList xs → sortedS xs = true → (∀ x, x ∈ xs ↔ S x = true) → xs.length = n → Q (.ref p) s') :
    wpAny (model P w) A (call (.builtin "sorted") [.ref a]) Q E s := by
  obtain ⟨o, es, ep, t, at0, exact_, dat, L⟩ := R
  refine Calls.call_function_entry kind_sorted plain_sorted entry_sorted (args_sorted1 _) ?_
  unfold Builtin.«sorted»
  refine wpAny_bind (m := checkCount "sorted" 1 1 _) (wpAny_pure (wpAny_bind (collect_set (A := A.in1) hh ⟨o, at0, exact_.1, dat⟩ L.fits L.few L.rises L.ledger fun s1 vs k1 z1 g1 o1 pm => ?_)))
  have len : vs.length = n := by rw [pm.length_eq, List.length_map, Array.length_toList, L.count]
  obtain ⟨xs, texts⟩ := texts_of vs fun v hv => by
    obtain ⟨e, he, rfl⟩ := List.mem_map.mp (pm.mem_iff.mp hv)
    obtain ⟨⟨k, is, _⟩, _⟩ := L.rows e he
    obtain ⟨tk, ev⟩ := Value.isStrOf_shape is
    exact ⟨k, tk, ev⟩
  have members : ∀ x, x ∈ xs ↔ S x = true := fun x => by
    rw [strsAre_mem texts x, L.told x]
    constructor
    · rintro ⟨tk, h⟩
      obtain ⟨e, he, ev⟩ := List.mem_map.mp (pm.mem_iff.mp h)
      exact ⟨e, he, by rw [ev]; exact PySem.strKind_is P w x tk⟩
    · rintro ⟨e, he, is⟩
      obtain ⟨tk, ev⟩ := Value.isStrOf_shape is
      exact ⟨tk, pm.mem_iff.mpr (List.mem_map.mpr ⟨e, he, ev⟩)⟩
  refine wpAny_bind (wpAny_newList ?_ (by rw [len, sizeLine_eq]; omega))
  have made : (s1.heap.push (seqObj "list" vs.toArray 0)).get? s1.heap.objs.size = some (seqObj "list" vs.toArray 0) := Heap.get?_push_size _ rfl
  refine wpAny_bind (wpAny_holding (wpAny_call_entry slot_list_sort ⟨_, made, rfl⟩ entry_list_sort (list_sort_treeKAny PyProof.Rows.strKind_oneLt made texts.keysOf (fun v1 v2 rest e => keyKind_strs (by rw [← e]; exact texts)) (by rw [len, sizeLine_eq]; omega) fun st p r => ?_) (args_list_sort _)))
  obtain ⟨ys, h1, h2, h3⟩ := sorted_out_str texts p r
  obtain ⟨c, at1⟩ := sortedHeap_at (vs := vs) (out := (arrOf st).map (·.2)) made
  refine ⟨_, rfl, wpAny_pure ⟨_, rfl, q _ s1.heap.objs.size _ c ys (fun b u e => ?_) g1 o1 z1 at1 h1 h3 (fun x => (h2.mem_iff).trans (members x)) ?_⟩⟩
  · have z := k1 b u e
    have lt := Heap.lt_size z
    show (sortedHeap (s1.heap.push (seqObj "list" vs.toArray 0)) s1.heap.objs.size vs ((arrOf st).map (·.2))).get? b = some u
    rw [sortedHeap_old (Nat.ne_of_lt lt) (by rw [size_push']; exact Nat.lt_succ_of_lt lt)]
    exact Heap.get?_push_of_some _ z
  · rw [h2.length_eq, ← texts.len_eq, len]
end
end Xci

namespace Xci
open PySem PySem.Spec PyProof.Rows L2
/-- the set of texts at a, as a tracked thing -/
def TextsO (P : Program) (w : World) (a : Addr) (S : Str → Bool) (n : Nat) : HO := .ext fun h => SetL (PySem.strKind P w) h a S n
theorem texts_new {P : Program} {w : World} {H : Hp} {h : Heap} {a : Addr} {S : Str → Bool} {n : Nat} (R : SetL (PySem.strKind P w) h a S n) : ObjOk P w H h a (TextsO P w a S n) :=
  ⟨R, R.elim fun o z => z.elim fun _ z => z.elim fun _ z => z.elim fun _ z => ⟨o, z.1⟩, fun _ _ p k => SetL.keep p k⟩
section
variable {X : Cx}
theorem texts_get {pins : List (Addr × Obj)} {σ : L2.St} {H : Hp} {s : Shared} {a : Addr} {S : Str → Bool} {n : Nat} (I : Inv X pins σ H s) (e : H a = some (TextsO X.prog X.w a S n)) : SetL (PySem.strKind X.prog X.w) s.heap a S n := (I.hok a _ e).1
/-- one more text -/
theorem texts_add {pins : List (Addr × Obj)} {σ : L2.St} {H : Hp} {s : Shared} {E : Value → Shared → Prop} {D : Addr} {S : Str → Bool} {n : Nat} {x : Str} {t : Tok} {Q : Value → Shared → Prop} (I : Inv X pins σ H s) (e : H D = some (TextsO X.prog X.w D S n)) (room : n + 1 < scanBound)
    (q : ∀ s', Inv X pins σ (upd H D (TextsO X.prog X.w D (fun j => S j || decide (j = x)) (if S x = true then n else n + 1))) s' → Q .none s') : wpAny (model X.prog X.w) X.A (call (.builtin "set.add") [.ref D, .str x t]) Q E s :=
  SetL.call_add (PySem.strKind_is _ _ x t) rfl (texts_get I e) room fun h' only R => q _ (I.write (e := D) (t' := s.toks + 1) (by rw [e]; trivial) (.inl rfl) (fun b u hb hu => (only.2 b hb).trans hu)
    (R.elim fun o z => z.elim fun _ z => z.elim fun _ z => z.elim fun _ z => ⟨o, z.1⟩) (texts_new R))
/-- sorted(a set of texts) -/
def rSortedTexts (P : Program) (w : World) : List V → Hp → VK → Prop := fun vs H Q => ∃ (a : Addr) (S : Str → Bool) (n : Nat), vs = [V.ref a] ∧ H a = some (TextsO P w a S n) ∧ n < 64 ∧
  ∀ (xs : List Str) (p : Addr), sortedS xs = true → (∀ x, x ∈ xs ↔ S x = true) → xs.length = n → H p = none → Q (.ref p) (upd H p (.lst (xs.map V.str)))
theorem vals_texts : ∀ {us : List Value} {xs : List Str}, StrsAre us xs → Vals (xs.map V.str) us
  | _, _, .nil => .nil
  | _, _, .cons x t r => .cons ⟨t, rfl⟩ (vals_texts r)
theorem cr_sortedTexts (calm : X.calm = true) : CallR X (.builtin "sorted") (rSortedTexts X.prog X.w) := by
  intro pins s σ H vs us Q I rv told
  obtain ⟨a, S, n, rfl, at0, small, q⟩ := told
  rw [Vals.ref1 rv]
  refine sorted_texts (texts_get I at0) (I.ok.hd calm) small fun s' p out c xs kept gens os fresh at1 texts up members len => ?_
  have free : H p = none := I.hok.fresh fresh
  have short : (xs.map V.str).length ≤ sizeLine := by rw [List.length_map, len, sizeLine_eq]; omega
  have J : Inv X pins σ (upd H p (.lst (xs.map V.str))) s' := I.call' (ch := []) os (Un.laid kept fresh free) (I.hok.laid kept fresh ⟨short, out.toList, c, vals_texts texts, at1⟩) (by rw [gens]; exact I.bare) (fun _ z => nomatch z)
  exact ⟨.ref p, _, J, rfl, q xs p up members len free⟩
end
end Xci

namespace Xci
open PySem PySem.Spec PyProof.Rows L2
/-- the parts of a comprehension, read in its own block -/
structure InBlock (X : Cx) (scope : Scope) (tg : Expr) (ifs : List Expr) (elt : Expr) (g : TG) (tt : TT) (te : TE) : Prop where
  target : ∀ (s : Shared) (H : Hp) (C : Addr) (cl : List (PySem.Str × Addr)) (fp : List Addr), PG (X.blk s H scope (compEnvC scope cl C X.env) fp) tg g
  tests : ∀ (s : Shared) (H : Hp) (C : Addr) (cl : List (PySem.Str × Addr)) (fp : List Addr), PTs (X.blk s H scope (compEnvC scope cl C X.env) fp) ifs tt
  item : ∀ (s : Shared) (H : Hp) (C : Addr) (cl : List (PySem.Str × Addr)) (fp : List Addr), PE (X.blk s H scope (compEnvC scope cl C X.env) fp) elt te
/-- {text for .. in .. if ..} in N turns: D the new set -/
def tTexts (P : Program) (w : World) (wi : TI) (g : TG) (tt : TT) (te : TE) (own : List Nat) : TE := fun σ H Q => wi σ H fun J H1 => ∀ D, H1 D = none → ∃ (N : Nat) (W : Nat → Hp → Prop), W 0 (upd H1 D (TextsO P w D (fun _ => false) 0)) ∧
  (∀ H, W N H → J.stop N H ∧ Q (.ref D) H) ∧ ∀ i H, i < N → W i H → J.go i H ∧ ∀ x H', J.yld i H x H' → g x (wipe σ own) H' fun σ2 H2 => wipe σ2 own = wipe σ own ∧ tt σ2 H2 fun b H3 =>
    if b = true then te σ2 H3 fun y H4 => ∃ (c : Str) (S : Str → Bool) (n : Nat), y = .str c ∧ H4 D = some (TextsO P w D S n) ∧ n + 1 < scanBound ∧ W (i + 1) (upd H4 D (TextsO P w D (fun j => S j || decide (j = c)) (if S c = true then n else n + 1))) else W (i + 1) H3
section
variable {X : Cx} {pins : List (Addr × Obj)} {σ : L2.St} {s : Shared} {H : Hp} {elt tg iter : Expr} {ifs : List Expr} {scope : Scope} {own : List (PySem.Str × Nat)} {pos : Pos} {g : TG} {tt : TT} {te : TE} {J : It} {it D : Addr} {fp : List Addr} {tn : Nat → Heap → Prop} {N : Nat} {W : Nat → Hp → Prop} {R : Result → Shared → Prop}
/-- what holds ahead of turn i, in the block -/
def Ahead (Y : Cx) (ρ : L2.St) (tn : Nat → Heap → Prop) (fp : List Addr) (W : Nat → Hp → Prop) (i : Nat) (s : Shared) : Prop := ∃ H, Inv Y [] ρ H s ∧ tn i s.heap ∧ (∀ b ∈ fp, H b = none) ∧ W i H
set_option maxHeartbeats 1000000 in
theorem texts_turn {C : Addr} {cl : List (PySem.Str × Addr)} (calm : X.calm = true) (B : InBlock X scope tg ifs elt g tt te) (T : Turn X.prog X.w X.K tg J fp it tn)
    (step : ∀ i H, i < N → W i H → J.go i H ∧ ∀ x H', J.yld i H x H' → g x (wipe σ (own.map (·.2))) H' fun σ2 H2 => wipe σ2 (own.map (·.2)) = wipe σ (own.map (·.2)) ∧ tt σ2 H2 fun b H3 =>
      if b = true then te σ2 H3 fun y H4 => ∃ (c : Str) (S : Str → Bool) (n : Nat), y = .str c ∧ H4 D = some (TextsO X.prog X.w D S n) ∧ n + 1 < scanBound ∧ W (i + 1) (upd H4 D (TextsO X.prog X.w D (fun j => S j || decide (j = c)) (if S c = true then n else n + 1))) else W (i + 1) H3)
    {i : Nat} (hi : i < N) {s1 : Shared} (ahead : Ahead (X.blk s H scope (compEnvC scope cl C X.env) fp) (wipe σ (own.map (·.2))) tn fp W i s1) {E : Value → Shared → Prop} {Z : Shared → Prop} (next : ∀ s', Ahead (X.blk s H scope (compEnvC scope cl C X.env) fp) (wipe σ (own.map (·.2))) tn fp W (i + 1) s' → Z s') :
    wpAny (model X.prog X.w) X.A (pyNext (.ref it)) (fun r s1 => ∃ u, r = some u ∧ wpAny (model X.prog X.w) X.A (letOwnedTupleGo tg (.ref it) u) (fun _ s1' => wpAny (model X.prog X.w) X.A (assign tg (compEnvC scope cl C X.env) u) (fun _ s2 =>
      wpAny (model X.prog X.w) X.A (forIn ifs true fun c r => if r = true then do let ok ← isTrue c (compEnvC scope cl C X.env) (eval c (compEnvC scope cl C X.env)); pure (ForInStep.yield ok) else pure (ForInStep.yield r)) (fun ok s3 =>
        if ok = true then wpAny (model X.prog X.w) X.A (eval elt (compEnvC scope cl C X.env)) (fun x s4 => wpAny (model X.prog X.w) X.A (call (.builtin "set.add") [.ref D, x]) (fun _ s5 => Z s5) E s4) E s3
        else Z s3) E s2) E s1') E s1) E s1 := by
  obtain ⟨H1, I1, st, free, w1⟩ := ahead
  obtain ⟨go, yields⟩ := step i H1 hi w1
  have clear : ∀ {ρ : L2.St} {H' : Hp} {s' : Shared}, Inv (X.blk s H scope (compEnvC scope cl C X.env) fp) [] ρ H' s' → (∀ b ∈ fp, H' b = none) → ∀ b ∈ fp, FpOk (X.blk s H scope (compEnvC scope cl C X.env) fp) [] H' b := fun I' n b hb =>
    have away := I'.ok.exf b hb
    ⟨n b hb, away.1, I'.ok.exfs b hb, .inl hb, fun x c e => away.2 x c e, fun p hp => nomatch (show p ∈ ([] : List (Addr × Obj)) from hp)⟩
  refine thnF (T.item (X.blk s H scope (compEnvC scope cl C X.env) fp) rfl rfl rfl calm i [] s1 _ H1 (fun _ _ => False) I1 (clear I1 free) st go) fun r s2 ⟨u, er, stored⟩ => ⟨u, er, thnF stored fun _ s3 ⟨x, H3, I3, rx, told, st3, free3⟩ => ?_⟩
  refine thnF ((B.target s H C cl fp).run _ s3 _ H3 x u _ (I3.pinned (clear I3 free3) (T.obj _ _ st3)) rx (yields x H3 told)) fun _ s4 ⟨σ4, H4, I4, same, q4⟩ => thnF ((B.tests s H C cl fp).run _ s4 σ4 H4 _ I4 q4) fun b s5 ⟨H5, I5, q5⟩ => ?_
  have close : ∀ {s' : Shared} {H' : Hp}, Inv (X.blk s H scope (compEnvC scope cl C X.env) fp) ([] ++ pinsAt fp s3.heap) σ4 H' s' → W (i + 1) H' → Ahead (X.blk s H scope (compEnvC scope cl C X.env) fp) (wipe σ (own.map (·.2))) tn fp W (i + 1) s' := fun {s' H'} I' w' => by
    have still : ∀ b ∈ fp, ∀ o, s3.heap.get? b = some o → s'.heap.get? b = some o ∧ H' b = none := fun b hb o e => by
      have z := I'.pin (b, o) (List.mem_append_right _ (List.mem_append_right _ (mem_pinsAt hb e)))
      exact ⟨z.1, z.2.1⟩
    refine ⟨H', I'.unpinned.weak (by rw [← same, wipe_length]) fun j v e => (wipe_some (same ▸ e)).1, T.keep _ _ _ st3 fun b hb o e => (still b hb o e).1, fun b hb => ?_, w'⟩
    obtain ⟨o, e, _⟩ := T.obj _ _ st3 b hb
    exact (still b hb o e).2
  cases b with
  | false => exact next _ (close I5 q5)
  | true =>
    refine thnF ((B.item s H C cl fp).run _ s5 σ4 H5 _ I5 q5) fun z s6 ⟨y, H6, I6, rz, c, S, n, ey, at6, room, w6⟩ => ?_
    subst ey
    obtain ⟨tk, rfl⟩ : ∃ tk, z = Value.str c tk := rz
    exact texts_add (X := X.blk s H scope (compEnvC scope cl C X.env) fp) I6 at6 room fun s7 I7 => next _ (close I7 w6)
end
section
variable {X : Cx} {pins : List (Addr × Obj)} {σ : L2.St} {s : Shared} {H : Hp} {Q : VK} {elt tg iter : Expr} {ifs : List Expr} {scope : Scope} {own : List (PySem.Str × Nat)} {pos : Pos} {g : TG} {tt : TT} {te : TE} {J : It} {it D : Addr} {fp : List Addr} {tn : Nat → Heap → Prop} {N : Nat} {W : Nat → Hp → Prop}
set_option maxHeartbeats 1000000 in
/-- all turns, from the new block on -/
theorem texts_run (calm : X.calm = true) (nd : X.N.Nodup) (I : Inv X pins σ H s) (ok : BlkOk X.N X.env.scope scope own) (B : InBlock X scope tg ifs elt g tt te) (T : Turn X.prog X.w X.K tg J fp it tn)
    (free : ∀ b ∈ fp, FpOk X pins H b ∧ b < s.heap.objs.size) (st : tn 0 s.heap) (w0 : W 0 H) (ends : ∀ H, W N H → J.stop N H ∧ Q (.ref D) H)
    (step : ∀ i H, i < N → W i H → J.go i H ∧ ∀ x H', J.yld i H x H' → g x (wipe σ (own.map (·.2))) H' fun σ2 H2 => wipe σ2 (own.map (·.2)) = wipe σ (own.map (·.2)) ∧ tt σ2 H2 fun b H3 =>
      if b = true then te σ2 H3 fun y H4 => ∃ (c : Str) (S : Str → Bool) (n : Nat), y = .str c ∧ H4 D = some (TextsO X.prog X.w D S n) ∧ n + 1 < scanBound ∧ W (i + 1) (upd H4 D (TextsO X.prog X.w D (fun j => S j || decide (j = c)) (if S c = true then n else n + 1))) else W (i + 1) H3) :
    codeAny (model X.prog X.w) X.A (.compStart (.SetComp elt [⟨tg, iter, ifs, 0⟩] scope pos) 0 (.ref it) (.ref D) (compEnvC scope (cellsFrom (s.heap.objs.size + 1) scope.names (cloFrom X.env.cells scope.names [])) s.heap.objs.size X.env))
      (compPost (model X.prog X.w) X.A X.xe none (EP X pins σ Q) (.ref D) s.heap.objs.size) { s with heap := pushCells (s.heap.push { cls := .type "dict", data := .dict #[] }) scope.names } := by
  have I1 := block_start I ok nd free
  have kept : ∀ b o, s.heap.get? b = some o → (pushCells (s.heap.push { cls := .type "dict", data := .dict #[] }) scope.names).get? b = some o := fun b o e => pushCells_keeps _ _ _ _ (Heap.get?_push_of_some _ e)
  have st1 : tn 0 (pushCells (s.heap.push { cls := .type "dict", data := .dict #[] }) scope.names) := T.keep _ _ _ st fun b _ o e => kept b o e
  have loop : codeAny (model X.prog X.w) X.A (.compLoop (.SetComp elt [⟨tg, iter, ifs, 0⟩] scope pos) 0 (.ref it) (.ref D) (compEnvC scope (cellsFrom (s.heap.objs.size + 1) scope.names (cloFrom X.env.cells scope.names [])) s.heap.objs.size X.env))
      (compPost (model X.prog X.w) X.A X.xe none (EP X pins σ Q) (.ref D) s.heap.objs.size) { s with heap := pushCells (s.heap.push { cls := .type "dict", data := .dict #[] }) scope.names } := by
    refine PpSet.compLoopS_any (fun m s' => ∃ i, i + m = N ∧ Ahead (X.blk s H scope (compEnvC scope (cellsFrom (s.heap.objs.size + 1) scope.names (cloFrom X.env.cells scope.names [])) s.heap.objs.size X.env) fp) (wipe σ (own.map (·.2))) tn fp W i s') ?_ N ⟨0, Nat.zero_add N, H, I1, st1, fun b hb => (free b hb).1.1, w0⟩
    rintro m s5 ⟨i, im, ahead⟩
    by_cases more : i < N
    · refine thn (texts_turn calm B T step more ahead (Z := fun s' => ∃ m', m' < m ∧ ∃ i, i + m' = N ∧ Ahead _ _ tn fp W i s') fun s' a => ⟨m - 1, by omega, i + 1, by omega, a⟩) fun r s6 h => ?_
      obtain ⟨u, rfl, rest⟩ := h
      exact rest
    · obtain rfl : i = N := by omega
      obtain ⟨H5, I5, st5, free5, w5⟩ := ahead
      obtain ⟨stop, q⟩ := ends H5 w5
      refine thnF (T.done (X.blk s H scope (compEnvC scope (cellsFrom (s.heap.objs.size + 1) scope.names (cloFrom X.env.cells scope.names [])) s.heap.objs.size X.env) fp) rfl rfl rfl calm i [] s5 _ H5 (fun _ _ => False) I5 (fun b hb => ⟨free5 b hb, (I5.ok.exf b hb).1, I5.ok.exfs b hb, .inl hb, fun x c e => (I5.ok.exf b hb).2 x c e, fun p hp => nomatch (show p ∈ ([] : List (Addr × Obj)) from hp)⟩) st5 stop) fun r s6 h => ?_
      obtain ⟨rfl, I6⟩ := h
      have I7 : Inv X pins σ H5 s6 := I.call' (ch := fp) I6.os I6.base I6.hok I6.bare fun b hb => by
        obtain ⟨_, c1, _, c3, c4, c5⟩ := (free b hb).1
        exact ⟨c3, c1, c4, c5⟩
      have gone : H5 s.heap.objs.size = none := I6.free
      obtain ⟨m', names, _⟩ := I6.loc
      obtain ⟨c0, c1, _, c3, c4, c5⟩ := I.fpOk (Nat.le_refl _) gone
      exact ⟨m', names, fun h'' only => ⟨.ref D, H5, I7.turned (t' := s6.toks) (fun b o hb e => (only.2 b hb).trans e) c0 c1 c3 c4 c5, rfl, q⟩⟩
  exact PpSet.codeAny_compStart_set loop (T.self X.A 0 _ _ _ st1 loop)
end
set_option maxHeartbeats 1000000 in
theorem pe_texts {X : Cx} {elt tg iter : Expr} {ifs : List Expr} {scope : Scope} {own : List (PySem.Str × Nat)} {pos : Pos} {wi : TI} {g : TG} {tt : TT} {te : TE} (calm : X.calm = true) (nd : X.N.Nodup) (hi : PI X tg iter wi) (ok : BlkOk X.N X.env.scope scope own)
    (B : InBlock X scope tg ifs elt g tt te) (plain : ∀ x, foldedSetIterable iter X.env x = pure x := by intro _; rfl) : PE X (.SetComp elt [⟨tg, iter, ifs, 0⟩] scope pos) (tTexts X.prog X.w wi g tt te (own.map (·.2))) where
  run pins s σ H Q I told := by
    rw [PpSet.eval_SetComp]
    have closes : ∀ y ∈ scope.names, y.2 = .free → ∃ c, X.env.cells.lookup y.1 = some c := fun y hy e => (ok.free y hy e).elim (fun k => I.ok.has _ (.inl k)) fun k => I.ok.has _ (.inr k)
    refine wpAny_comprehension_free rfl plain (closure_ok closes) ok.kind (fun y hy e => by rw [ok.uniq y hy, e]) (thn (hi.run pins s σ H _ I told) fun _ _ comes => thn comes fun _ s2 ⟨it, fp, tn, J, H2, eit, I2, T, st2, free2, turns⟩ => ?_)
    subst eit
    refine PpSet.newSet_ok (newEnv_comp ?_)
    have unused : H2 s2.heap.objs.size = none := I2.hok.fresh (Nat.le_refl _)
    obtain ⟨N, W, w0, ends, step⟩ := turns _ unused
    have below : ∀ b ∈ fp, b < s2.heap.objs.size := fun b hb => (T.obj _ _ st2 b hb).elim fun o z => Heap.lt_size z.1
    have I3 := I2.laid (t' := s2.toks) (fun b o e => Heap.get?_push_of_some _ e) (Nat.le_refl _) (texts_new (P := X.prog) (w := X.w) SetL.none)
    exact texts_run calm nd I3 ok B T (fun b hb => ⟨⟨by rw [upd_ne (Nat.ne_of_lt (below b hb))]; exact (free2 b hb).1, (free2 b hb).2⟩, by show b < (s2.heap.push _).objs.size; rw [Heap.size_push]; exact Nat.lt_succ_of_lt (below b hb)⟩)
      (T.keep _ _ _ st2 fun b _ o e => Heap.get?_push_of_some _ e) w0 ends step
end Xci

namespace Xci
open PySem L2
def top (i : Nat) : Stmt := PySem.Challenge.pw_sameforms_k15_whole_tables_made.main.body.getD i (.Pass ⟨0, 0, 0, 0⟩)
end Xci

namespace Xci
open PySem L2
/-! ### data and promises of the law's draws -/
def Sq (K : PySem.W.Frag) (H : Hp) (p : Addr) (xs : List V) : Prop := SqL K H p xs ∨ SqT K H p xs
theorem Sq.fr {K : PySem.W.Frag} {a p : Addr} {H H' : Hp} {xs : List V} (s : Sq K H p xs) (f : Fr a H H') (n : p ≠ a) : Sq K H' p xs := by
  rcases s with ((h | ⟨o, h⟩) | h) | ((h | ⟨o, h⟩) | h)
  · exact .inl (.inl (.inl (f _ _ h n)))
  · exact .inl (.inl (.inr ⟨o, f _ _ h n⟩))
  · exact .inl (.inr h)
  · exact .inr (.inl (.inl (f _ _ h n)))
  · exact .inr (.inl (.inr ⟨o, f _ _ h n⟩))
  · exact .inr (.inr h)
theorem Sq.tup {K : PySem.W.Frag} {H : Hp} {p : Addr} {xs : List V} (h : H p = some (.tup xs)) : Sq K H p xs := .inr (.inl (.inl h))
theorem Sq.lst {K : PySem.W.Frag} {H : Hp} {p : Addr} {xs : List V} (h : H p = some (.lst xs)) : Sq K H p xs := .inl (.inl (.inl h))
theorem sqT {K : PySem.W.Frag} {H : Hp} {p : Addr} {xs : List V} (h : H p = some (.tup xs)) : SqT K H p xs := .inl (.inl h)
theorem sqT_same {K : PySem.W.Frag} {H H' : Hp} {p : Addr} {xs : List V} (s : SqT K H p xs) (f : Same H H') : SqT K H' p xs := by
  rcases s with (h | ⟨o, h⟩) | h
  · exact .inl (.inl (f _ _ h))
  · exact .inl (.inr ⟨o, f _ _ h⟩)
  · exact .inr h
/-- tracked: a list or a tuple of xs at p -/
def Sq0 (H : Hp) (p : Addr) (xs : List V) : Prop := H p = some (.lst xs) ∨ H p = some (.tup xs)
theorem Sq0.fr {a p : Addr} {H H' : Hp} {xs : List V} (s : Sq0 H p xs) (f : Fr a H H') (n : p ≠ a) : Sq0 H' p xs := s.imp (fun h => f _ _ h n) (fun h => f _ _ h n)
theorem Sq0.same {p : Addr} {H H' : Hp} {xs : List V} (s : Sq0 H p xs) (f : Same H H') : Sq0 H' p xs := s.imp (fun h => f _ _ h) (fun h => f _ _ h)
theorem Sq0.put {p q : Addr} {H : Hp} {o : HO} {xs : List V} (s : Sq0 H p xs) (n : p ≠ q) : Sq0 (upd H q o) p xs := s.imp (fun h => by rw [upd_ne n]; exact h) (fun h => by rw [upd_ne n]; exact h)
theorem Sq0.sq {K : PySem.W.Frag} {p : Addr} {H : Hp} {xs : List V} (s : Sq0 H p xs) : Sq K H p xs := s.elim Sq.lst Sq.tup
theorem Sq0.ne {p q : Addr} {H : Hp} {xs : List V} (s : Sq0 H p xs) (h : H q = Option.none) : p ≠ q := s.elim (fun e => ne_of_none e h) (fun e => ne_of_none e h)
structure WordOk (z : Str) : Prop where
  lo : 1 ≤ z.length
  hi : z.length ≤ 8
  az : ∀ c ∈ z.cps.toList, 97 ≤ c ∧ c ≤ 122
structure MarksOk (n : Int) (ms : List Int) : Prop where
  up : ms.Pairwise (· < ·)
  lo : ∀ m ∈ ms, 0 ≤ m
  hi : ∀ m ∈ ms, m < n
theorem MarksOk.sub {n : Int} {ms ks : List Int} (h : MarksOk n ms) (s : ks.Sublist ms) : MarksOk n ks := ⟨h.up.sublist s, fun m q => h.lo m (s.subset q), fun m q => h.hi m (s.subset q)⟩
theorem MarksOk.le {n n' : Int} {ms : List Int} (h : MarksOk n ms) (l : n ≤ n') : MarksOk n' ms := ⟨h.up, h.lo, fun m q => by have := h.hi m q; omega⟩
/-- v is a tuple of the ints ms -/
abbrev Mk (H : Hp) (v : V) (ms : List Int) : Prop := Tup H v (ms.map V.int)
theorem Mk.keep {H H' : Hp} {v : V} {ms : List Int} (f : TFr H H') (t : Xci.Mk H v ms) : Xci.Mk H' v ms := Tup.keep f t
/-- the tuples of ints vs -/
abbrev Mks (H : Hp) (vs : List V) (cs : List (List Int)) : Prop := Paired (fun v ms => Xci.Mk H v ms) vs cs
theorem Mks.keep {H H' : Hp} {vs : List V} {cs : List (List Int)} (f : TFr H H') (t : Mks H vs cs) : Mks H' vs cs := Paired.mapP t fun _ _ h => Tup.keep f h
theorem Paired.get {α β : Type} {F : α → β → Prop} : ∀ {xs : List α} {ys : List β} {i : Nat} {x : α}, Paired F xs ys → xs[i]? = some x → ∃ y, ys[i]? = some y ∧ F x y
  | _, _, _, _, .nil, e => by simp at e
  | _, _, 0, _, .cons r _, e => by simp at e; subst e; exact ⟨_, rfl, r⟩
  | _, _, i + 1, x, .cons _ t, e => by
    obtain ⟨u, h1, h2⟩ := Paired.get (i := i) (x := x) t (by simpa using e)
    exact ⟨u, by simpa using h1, h2⟩
theorem Paired.get' {α β : Type} {F : α → β → Prop} : ∀ {xs : List α} {ys : List β} {i : Nat} {y : β}, Paired F xs ys → ys[i]? = some y → ∃ x, xs[i]? = some x ∧ F x y
  | _, _, _, _, .nil, e => by simp at e
  | _, _, 0, _, .cons r _, e => by simp at e; subst e; exact ⟨_, rfl, r⟩
  | _, _, i + 1, x, .cons _ t, e => by
    obtain ⟨u, h1, h2⟩ := Paired.get' (i := i) (y := x) t (by simpa using e)
    exact ⟨u, by simpa using h1, h2⟩
theorem Paired.app {α β : Type} {F : α → β → Prop} : ∀ {xs xs' : List α} {ys ys' : List β}, Paired F xs ys → Paired F xs' ys' → Paired F (xs ++ xs') (ys ++ ys')
  | _, _, _, _, .nil, s => s
  | _, _, _, _, .cons r t, s => .cons r (Paired.app t s)
theorem Paired.one {α β : Type} {F : α → β → Prop} {x : α} {y : β} (h : F x y) : Paired F [x] [y] := .cons h .nil
theorem Paired.take {α β : Type} {F : α → β → Prop} : ∀ {xs : List α} {ys : List β} (n : Nat), Paired F xs ys → Paired F (xs.take n) (ys.take n)
  | _, _, 0, _ => .nil
  | _, _, _ + 1, .nil => .nil
  | _, _, n + 1, .cons r t => .cons r (Paired.take n t)
theorem Paired.perm {α β : Type} {F : α → β → Prop} {xs xs' : List α} (p : xs'.Perm xs) : ∀ {ys : List β}, Paired F xs ys → ∃ ys', Paired F xs' ys' ∧ ys'.Perm ys := by
  induction p with
  | nil => intro ys h; exact ⟨ys, h, .refl _⟩
  | cons x _ ih =>
    intro ys h
    cases h with
    | cons r t =>
      obtain ⟨ys', h', p'⟩ := ih t
      exact ⟨_, .cons r h', p'.cons _⟩
  | swap x y l =>
    intro ys h
    cases h with
    | cons r t =>
      cases t with
      | cons r' t' => exact ⟨_, .cons r' (.cons r t'), .swap _ _ _⟩
  | trans _ _ ih1 ih2 =>
    intro ys h
    obtain ⟨y1, h1, p1⟩ := ih2 h
    obtain ⟨y2, h2, p2⟩ := ih1 h1
    exact ⟨y2, h2, p2.trans p1⟩
/-- the rest of a list, by the removal of one -/
theorem perm_erase {α : Type} : ∀ {xs : List α} {k : Nat} {y : α}, xs[k]? = some y → (xs.eraseIdx k ++ [y]).Perm xs
  | [], _, _, h => by simp at h
  | a :: r, 0, y, h => by
    have e : a = y := Option.some.inj h
    subst e
    exact List.perm_append_singleton _ _
  | a :: r, k + 1, y, h => by
    have ih := perm_erase (xs := r) (k := k) (y := y) h
    exact ih.cons a
def lots (ns : List Int) : List (List Int) := ns.foldl (fun acc x => acc ++ acc.map (· ++ [x])) [[]]
theorem lots_snoc (ns : List Int) (x : Int) : lots (ns ++ [x]) = lots ns ++ (lots ns).map (· ++ [x]) := by
  unfold lots
  rw [List.foldl_append]
  rfl
theorem snoc_ind {α : Type} {M : List α → Prop} (h0 : M []) (h1 : ∀ l x, M l → M (l ++ [x])) : ∀ l, M l := by
  have : ∀ l : List α, M l.reverse := by
    intro l
    induction l with
    | nil => exact h0
    | cons x l ih => rw [List.reverse_cons]; exact h1 _ _ ih
  intro l
  have q := this l.reverse
  rw [List.reverse_reverse] at q
  exact q
theorem lots_len (ns : List Int) : (lots ns).length = 2 ^ ns.length := by
  refine snoc_ind (M := fun ns => (lots ns).length = 2 ^ ns.length) rfl (fun l x ih => ?_) ns
  rw [lots_snoc, List.length_append, List.length_map, List.length_append, ih, List.length_singleton, Nat.pow_succ]
  omega
theorem lots_sub {ns ms : List Int} : ms ∈ lots ns → ms.Sublist ns := by
  refine snoc_ind (M := fun ns => ∀ ms, ms ∈ lots ns → ms.Sublist ns) (fun ms h => ?_) (fun l x ih ms h => ?_) ns ms
  · have : ms = [] := by simpa [lots] using h
    subst this
    exact .slnil
  · rw [lots_snoc] at h
    rcases List.mem_append.mp h with h | h
    · exact (ih ms h).trans (List.sublist_append_left _ _)
    · obtain ⟨k, hk, rfl⟩ := List.mem_map.mp h
      exact (ih k hk).append_right _
theorem lots_nd {ns : List Int} (h : ns.Nodup) : (lots ns).Nodup := by
  revert h
  refine snoc_ind (M := fun ns => ns.Nodup → (lots ns).Nodup) (fun _ => by decide) (fun l x ih h => ?_) ns
  obtain ⟨h1, _, h3⟩ := List.nodup_append.mp h
  rw [lots_snoc]
  refine List.nodup_append.mpr ⟨ih h1, ?_, fun a ha b hb e => ?_⟩
  · unfold List.Nodup
    rw [List.pairwise_map]
    exact (ih h1).imp fun n e => n (List.append_cancel_right e)
  · obtain ⟨k, hk, rfl⟩ := List.mem_map.mp hb
    subst e
    have : x ∈ l := (lots_sub ha).subset (by simp)
    exact h3 x this x (by simp) rfl
def spDeck (K : PySem.W.Frag) : Sp := fun vs H Q _ => ∃ (a : Addr) (ns : List Int), vs = [.ref a] ∧ SqL K H a (ns.map V.int) ∧ ns.length ≤ 63 ∧ ∀ (d l : Addr) (H' : Hp), Deck H' d l → Same H H' → Q (.ref d) H'
def spMixed (K : PySem.W.Frag) : Sp := fun vs H Q _ => ∃ (a l p : Addr) (xs : List V), vs = [.ref a, .ref p] ∧ Deck H a l ∧ Sq K H p xs ∧ xs.length ≤ 1000 ∧
  ∀ (q : Addr) (ys : List V) (H' : Hp), ys.Perm xs → H' q = some (.lst ys) → H q = Option.none → Deck H' a l → Fr a H H' → Q (.ref q) H'
def spWord : Sp := fun vs H Q _ => ∃ a l : Addr, vs = [.ref a] ∧ Deck H a l ∧ ∀ (z : Str) (H' : Hp), WordOk z → Deck H' a l → Fr a H H' → Q (.str z) H'
def spWords : Sp := fun vs H Q _ => ∃ (a l : Addr) (m : Int), vs = [.ref a, .int m] ∧ Deck H a l ∧ 0 < m ∧ m ≤ 1000 ∧
  ∀ (q : Addr) (zs : List Str) (H' : Hp), zs ≠ [] → (zs.length : Int) ≤ m → zs.Nodup → (∀ z ∈ zs, WordOk z) → H' q = some (.lst (zs.map V.str)) → H q = Option.none → Deck H' a l → Fr a H H' → Q (.ref q) H'
def spLots (K : PySem.W.Frag) : Sp := fun vs H Q _ => ∃ (p : Addr) (ns : List Int), vs = [.ref p] ∧ SqT K H p (ns.map V.int) ∧ ns.length ≤ 6 ∧
  ∀ (q : Addr) (ys : List V) (H' : Hp), H' q = some (.lst ys) → Mks H' ys (lots ns) → Same H H' → H q = Option.none → Q (.ref q) H'
structure FamOk (many : Int) (cells : List (List Int)) : Prop where
  lo : 0 ≤ many
  hi : many ≤ 6
  ne : cells ≠ []
  len : cells.length ≤ 24
  nd : cells.Nodup
  ok : ∀ c ∈ cells, MarksOk many c
def spFamily : Sp := fun vs H Q _ => ∃ a l : Addr, vs = [.ref a] ∧ Deck H a l ∧
  ∀ (v : V) (p : Addr) (many : Int) (ys : List V) (cells : List (List Int)) (H' : Hp), Tup H' v [.int many, .ref p] → H' p = some (.tup ys) → Mks H' ys cells → FamOk many cells → Deck H' a l → Fr a H H' → Q v H'
def spMarks (K : PySem.W.Frag) : Sp := fun vs H Q _ => ∃ (a l p : Addr) (ys : List V) (cells : List (List Int)), vs = [.ref a, .ref p] ∧ Deck H a l ∧ p ≠ a ∧ Sq0 H p ys ∧ Mks H ys cells ∧ cells ≠ [] ∧ cells.length ≤ 1000 ∧ (∀ c ∈ cells, MarksOk 6 c) ∧
  ∀ (v : V) (ms : List Int) (H' : Hp), Xci.Mk H' v ms → MarksOk 6 ms → Deck H' a l → Fr a H H' → Q v H'
abbrev Ent : Type := List Int × Str
def EntV (H : Hp) (v : V) (e : Ent) : Prop := ∃ u, Tup H v [u, .str e.2] ∧ Xci.Mk H u e.1
theorem EntV.keep {H H' : Hp} {v : V} {e : Ent} (f : TFr H H') (t : EntV H v e) : EntV H' v e := by
  obtain ⟨u, h, g⟩ := t
  exact ⟨u, h.keep f, Tup.keep f g⟩
structure EntOk (e : Ent) : Prop where
  ms : MarksOk 6 e.1
  w : WordOk e.2
abbrev Ents (H : Hp) (vs : List V) (es : List Ent) : Prop := Paired (fun v e => EntV H v e) vs es
theorem Ents.keep {H H' : Hp} {vs : List V} {es : List Ent} (f : TFr H H') (t : Ents H vs es) : Ents H' vs es := Paired.mapP t fun _ _ h => EntV.keep f h
def spEntries (K : PySem.W.Frag) : Sp := fun vs H Q _ => ∃ (a l p q : Addr) (ys : List V) (cells : List (List Int)) (zs : List Str) (m : Int), vs = [.ref a, .ref p, .ref q, .int m] ∧ Deck H a l ∧ p ≠ a ∧ Sq0 H p ys ∧ Mks H ys cells ∧ cells ≠ [] ∧ cells.length ≤ 1000 ∧ (∀ c ∈ cells, MarksOk 6 c) ∧
  H q = some (.lst (zs.map V.str)) ∧ q ≠ a ∧ zs ≠ [] ∧ zs.length ≤ 1000 ∧ (∀ z ∈ zs, WordOk z) ∧ 0 ≤ m ∧ m ≤ 1000 ∧
  ∀ (r : Addr) (vs' : List V) (es : List Ent) (H' : Hp), H' r = some (.tup vs') → Ents H' vs' es → (es.length : Int) ≤ m → (∀ e ∈ es, EntOk e) → Deck H' a l → Fr a H H' → Q (.ref r) H'
theorem int_of {ns : List Int} {i : Nat} {y : V} (h : (ns.map V.int)[i]? = some y) : ∃ z, ns[i]? = some z ∧ y = V.int z := by
  rw [List.getElem?_map] at h
  cases e : ns[i]? with
  | none => rw [e] at h; cases h
  | some z => rw [e] at h; exact ⟨z, rfl, (Option.some.inj h).symm⟩
theorem mod_bd (x : Int) {m : Int} (h : 0 < m) : 0 ≤ x % m ∧ x % m < m := ⟨Int.emod_nonneg _ (by omega), Int.emod_lt_of_pos _ h⟩
theorem cut63 (ns : List Int) : cutV (ns.map V.int) none (some 63) = (ns.take 63).map V.int := by
  unfold cutV
  have e0 : HT.sIx (ns.map V.int).length 0 none = 0 := rfl
  rw [e0]
  have e1 : HT.sIx (ns.map V.int).length (ns.map V.int).length (some 63) = min 63 ns.length := by
    unfold HT.sIx
    simp
    try omega
  rw [e1, List.drop_zero, List.map_take]
  simp only [Nat.sub_zero]
  rw [Nat.min_comm]
  by_cases h : ns.length ≤ 63
  · rw [Nat.min_eq_left h, List.take_of_length_le (by simp), List.take_of_length_le (by simpa using h)]
  · rw [Nat.min_eq_right (by omega)]

def inside (ms ns : List Int) : Bool := ms.all fun m => decide (m ∈ ns)
theorem asc_len {n : Int} : ∀ {ms : List Int} {lo : Int}, ms.Pairwise (· < ·) → (∀ m ∈ ms, lo ≤ m ∧ m < n) → ms.length ≤ (n - lo).toNat
  | [], _, _, _ => Nat.zero_le _
  | m :: r, lo, hp, hb => by
    obtain ⟨h1, h2⟩ := List.pairwise_cons.mp hp
    have b := hb m (by simp)
    have ih := asc_len (n := n) (ms := r) (lo := m + 1) h2 fun k hk => ⟨by have := h1 k hk; omega, (hb k (List.mem_cons_of_mem _ hk)).2⟩
    rw [List.length_cons]
    omega
theorem MarksOk.len {n : Int} {ms : List Int} (h : MarksOk n ms) : ms.length ≤ n.toNat := by
  have := asc_len (n := n) (lo := 0) h.up fun m hm => ⟨h.lo m hm, h.hi m hm⟩
  simpa using this
theorem inV_int (m : Int) (ns : List Int) : inV (.int m) (ns.map V.int) = decide (m ∈ ns) := by
  unfold inV
  rw [List.any_map]
  induction ns with
  | nil => rfl
  | cons a r ih =>
    rw [List.any_cons, ih]
    show ((a == m) || decide (m ∈ r)) = decide (m ∈ a :: r)
    by_cases h : a = m
    · subst h; simp
    · have h' : ¬ m = a := fun e => h e.symm
      simp [h, h']
theorem inV_str (m : Str) (ns : List Str) : inV (.str m) (ns.map V.str) = decide (m ∈ ns) := by
  unfold inV
  rw [List.any_map]
  induction ns with
  | nil => rfl
  | cons a r ih =>
    rw [List.any_cons, ih]
    show ((a == m) || decide (m ∈ r)) = decide (m ∈ a :: r)
    by_cases h : a = m
    · subst h; simp
    · have h' : ¬ m = a := fun e => h e.symm
      simp [h, h']
theorem flat_ints (ns : List Int) : (ns.map V.int).all flatV = true := by
  rw [List.all_map]; exact List.all_eq_true.mpr fun _ _ => rfl
theorem flat_strs (ns : List Str) : (ns.map V.str).all flatV = true := by
  rw [List.all_map]; exact List.all_eq_true.mpr fun _ _ => rfl
theorem str_of {ns : List Str} {i : Nat} {y : V} (h : (ns.map V.str)[i]? = some y) : ∃ z, ns[i]? = some z ∧ y = V.str z := by
  rw [List.getElem?_map] at h
  cases e : ns[i]? with
  | none => rw [e] at h; cases h
  | some z => rw [e] at h; exact ⟨z, rfl, (Option.some.inj h).symm⟩
def rng (n : Int) : List Int := (List.range n.toNat).map fun i => ((i : Nat) : Int)
theorem rgV_rng (n : Int) : rgV 0 n = (rng n).map V.int := by
  unfold rgV rng
  rw [List.map_map, Int.sub_zero]
  refine List.map_congr_left fun i _ => ?_
  show V.int (0 + (i : Nat)) = V.int (i : Nat)
  rw [Int.zero_add]
theorem rng_len (n : Int) : (rng n).length = n.toNat := by unfold rng; rw [List.length_map, List.length_range]
theorem rng_ok (n : Int) : MarksOk n (rng n) := by
  refine ⟨?_, fun m hm => ?_, fun m hm => ?_⟩
  · unfold rng
    rw [List.pairwise_map]
    exact List.pairwise_lt_range.imp fun h => by omega
  · obtain ⟨i, hi, rfl⟩ := List.mem_map.mp hm
    omega
  · obtain ⟨i, hi, rfl⟩ := List.mem_map.mp hm
    have := List.mem_range.mp hi
    omega
theorem MarksOk.nd {n : Int} {ms : List Int} (h : MarksOk n ms) : ms.Nodup := h.up.imp fun h e => by omega
def spIn : Sp := fun vs H Q _ => ∃ (u v : V) (ms ns : List Int), vs = [u, v] ∧ Xci.Mk H u ms ∧ Xci.Mk H v ns ∧ ms.length ≤ 1000 ∧ ∀ H', Same H H' → Q (.bl (inside ms ns)) H'
end Xci

namespace Xci
open PySem L2
/-! ### books -/
/-- the numbers that the top has written -/
structure Cst (mg : Str → Option Value) where
  t1 : Tok
  t2 : Tok
  t3 : Tok
  t4 : Tok
  LONGEST_FORM : mg "LONGEST_FORM" = some (.int 8 t1)
  MARKS : mg "MARKS" = some (.int 6 t2)
  MOST_ENTRIES : mg "MOST_ENTRIES" = some (.int 40 t3)
  MOST_WEIGHT : mg "MOST_WEIGHT" = some (.int 1000000 t4)
/-- the class Book, the tuple of the manners -/
structure BkTxt (K : PySem.W.Frag) (mg : Str → Option Value) (C aM : Addr) : Prop where
  cl : Cls K C
  nM : NoAttr K C "manner"
  nE : NoAttr K C "entries"
  nW : NoAttr K C "weights"
  mgC : mg "Book" = some (.ref C)
  mgM : mg "MANNERS" = some (.ref aM)
  man : ∀ H : Hp, SqT K H aM [.str "row", .str "within", .str "weights", .str "most"]
def bf (man : Str) (p : Addr) (wt : V) : List (Str × V) := [("manner", .str man), ("entries", .ref p), ("weights", wt)]
theorem n_me : ¬ (("manner" : Str) = "entries") := by decide +kernel
theorem n_mw : ¬ (("manner" : Str) = "weights") := by decide +kernel
theorem n_ew : ¬ (("entries" : Str) = "weights") := by decide +kernel
theorem n_em : ¬ (("entries" : Str) = "manner") := by decide +kernel
theorem n_wm : ¬ (("weights" : Str) = "manner") := by decide +kernel
theorem n_we : ¬ (("weights" : Str) = "entries") := by decide +kernel
theorem put1 (v : V) : putF "manner" v [] = [(("manner" : Str), v)] := rfl
theorem put2 (v u : V) : putF "entries" u [(("manner" : Str), v)] = [(("manner" : Str), v), (("entries" : Str), u)] := by
  show (if ("manner" : Str) = "entries" then _ else (("manner" : Str), v) :: putF "entries" u []) = _
  rw [if_neg n_me]; rfl
theorem put3 (v u x : V) : putF "weights" x [(("manner" : Str), v), (("entries" : Str), u)] = [(("manner" : Str), v), (("entries" : Str), u), (("weights" : Str), x)] := by
  show (if ("manner" : Str) = "weights" then _ else (("manner" : Str), v) :: (if ("entries" : Str) = "weights" then _ else (("entries" : Str), u) :: putF "weights" x [])) = _
  rw [if_neg n_mw, if_neg n_ew]; rfl
theorem bf_manner (man : Str) (p : Addr) (wt : V) : (bf man p wt).lookup ("manner" : Str) = some (.str man) := by
  unfold bf
  rw [List.lookup_cons, show ((Str.ofString "manner" : Str) == Str.ofString "manner") = true from by decide +kernel]
theorem bf_entries (man : Str) (p : Addr) (wt : V) : (bf man p wt).lookup ("entries" : Str) = some (.ref p) := by
  unfold bf
  rw [List.lookup_cons, show ((Str.ofString "entries" : Str) == Str.ofString "manner") = false from by decide +kernel]
  rfl
theorem bf_weights (man : Str) (p : Addr) (wt : V) : (bf man p wt).lookup ("weights" : Str) = some wt := by
  unfold bf
  rw [List.lookup_cons, show ((Str.ofString "weights" : Str) == Str.ofString "manner") = false from by decide +kernel, List.lookup_cons, show ((Str.ofString "weights" : Str) == Str.ofString "entries") = false from by decide +kernel]
  rfl
def BookAt (C : Addr) (H : Hp) (b : Addr) (man : Str) (p : Addr) (wt : V) : Prop := ∃ dx, H b = some (.ins C dx (bf man p wt))
/-- the weights that go with the manner -/
def WtOk (H : Hp) (man : Str) (wt : V) : Prop := (man ≠ "weights" ∧ wt = .non) ∨ (man = "weights" ∧ ∃ ws : List Int, Xci.Mk H wt ws ∧ ws.length = 6 ∧ ∀ x ∈ ws, 0 ≤ x ∧ x ≤ 1000000)
theorem WtOk.keep {H H' : Hp} {man : Str} {wt : V} (f : TFr H H') (h : WtOk H man wt) : WtOk H' man wt := by
  rcases h with h | ⟨e, ws, m, r⟩
  · exact .inl h
  · exact .inr ⟨e, ws, Tup.keep f m, r⟩
def Man (man : Str) : Prop := man = "row" ∨ man = "within" ∨ man = "weights" ∨ man = "most"
def spIsInteger : Sp := fun vs H Q _ => ∃ i : Int, vs = [.int i] ∧ Q (.bl true) H
def spBetween : Sp := fun vs H Q _ => ∃ lo hi x : Int, vs = [.int lo, .int hi, .int x] ∧ Q (.bl (decide (lo ≤ x ∧ x ≤ hi))) H
def spIsCell : Sp := fun vs H Q _ => ∃ (n : Int) (v : V) (ms : List Int), vs = [.int n, v] ∧ Xci.Mk H v ms ∧ MarksOk n ms ∧ Q (.bl true) H
def spIsForm : Sp := fun vs H Q _ => ∃ z : Str, vs = [.str z] ∧ WordOk z ∧ Q (.bl true) H
def spLies : Sp := fun vs H Q _ => ∃ (u v : V) (ms ns : List Int), vs = [u, v] ∧ Xci.Mk H u ms ∧ Xci.Mk H v ns ∧ Q (.bl (inside ms ns)) H
def spIsEntry : Sp := fun vs H Q _ => ∃ (v : V) (e : Ent), vs = [v] ∧ EntV H v e ∧ EntOk e ∧ Q (.bl true) H
def spAreEntries : Sp := fun vs H Q _ => ∃ (p : Addr) (ys : List V) (es : List Ent), vs = [.ref p] ∧ H p = some (.tup ys) ∧ Ents H ys es ∧ (∀ e ∈ es, EntOk e) ∧ es.length ≤ 40 ∧ Q (.bl true) H
def spAreWeights : Sp := fun vs H Q _ => ∃ (man : Str) (wt : V), vs = [.str man, wt] ∧ WtOk H man wt ∧ Q (.bl true) H
def spBook (C : Addr) : Sp := fun vs H Q _ => ∃ (x dx : Addr) (man : Str) (p : Addr) (wt : V) (ys : List V) (es : List Ent), vs = [.ref x, .str man, .ref p, wt] ∧ H x = some (.ins C dx []) ∧ Man man ∧ WtOk H man wt ∧ H p = some (.tup ys) ∧ Ents H ys es ∧ (∀ e ∈ es, EntOk e) ∧ es.length ≤ 40 ∧
  ∀ H' : Hp, BookAt C H' x man p wt → (∀ b o, H b = some o → b ≠ x → H' b = some o) → Q .non H'
/-- the entries that fit a cell, by their numbers -/
def fitP (es : List Ent) (ms : List Int) (i : Nat) : Bool := match es[i]? with
  | some e => inside e.1 ms
  | none => false
def fitN (es : List Ent) (ms : List Int) : List Nat := (List.range es.length).filter (fitP es ms)
def nat2 (js : List Nat) : List Int := js.map fun j => ((j : Nat) : Int)
def spFits (K : PySem.W.Frag) : Sp := fun vs H Q _ => ∃ (p : Addr) (v : V) (ys : List V) (es : List Ent) (ms : List Int), vs = [.ref p, v] ∧ H p = some (.tup ys) ∧ Ents H ys es ∧ (∀ e ∈ es, EntOk e) ∧ es.length ≤ 1000 ∧ Xci.Mk H v ms ∧
  ∀ (q : Addr) (H' : Hp), H' q = some (.lst ((nat2 (fitN es ms)).map V.int)) → Same H H' → Q (.ref q) H'
def spFitting (C : Addr) : Sp := fun vs H Q _ => ∃ (b p : Addr) (man : Str) (wt v : V) (ys : List V) (es : List Ent) (ms : List Int), vs = [.ref b, v] ∧ BookAt C H b man p wt ∧ H p = some (.tup ys) ∧ Ents H ys es ∧ (∀ e ∈ es, EntOk e) ∧ es.length ≤ 40 ∧ Xci.Mk H v ms ∧ MarksOk 6 ms ∧
  ∀ (q : Addr) (H' : Hp), H' q = some (.tup ((nat2 (fitN es ms)).map V.int)) → Same H H' → Q (.ref q) H'
def hd1 : List Nat → V
  | [] => .non
  | j :: _ => .int (j : Int)
def spSpeakingRow (C : Addr) : Sp := fun vs H Q _ => ∃ (b p q : Addr) (wt : V) (js : List Nat), vs = [.ref b, .ref q] ∧ BookAt C H b "row" p wt ∧ H q = some (.tup ((nat2 js).map V.int)) ∧ Q (hd1 js) H
def spk : List Nat → List V
  | [] => [.str "none"]
  | j :: _ => [.str "entry", .int (j : Int)]
def spSpeakerRow (C : Addr) : Sp := fun vs H Q _ => ∃ (b p : Addr) (wt v : V) (ys : List V) (es : List Ent) (ms : List Int), vs = [.ref b, v] ∧ BookAt C H b "row" p wt ∧ H p = some (.tup ys) ∧ Ents H ys es ∧ (∀ e ∈ es, EntOk e) ∧ es.length ≤ 40 ∧ Xci.Mk H v ms ∧ MarksOk 6 ms ∧
  ∀ (u : V) (H' : Hp), Tup H' u (spk (fitN es ms)) → Same H H' → Q u H'
def spSpeaksRow (K : PySem.W.Frag) : Sp := fun vs H Q _ => ∃ (p : Addr) (v : V) (ys : List V) (es : List Ent) (ms : List Int), vs = [.str "row", .ref p, .non, v] ∧ H p = some (.tup ys) ∧ Ents H ys es ∧ (∀ e ∈ es, EntOk e) ∧ es.length ≤ 1000 ∧ Xci.Mk H v ms ∧
  ∀ (u : V) (H' : Hp), Tup H' u (spk (fitN es ms)) → Same H H' → Q u H'
def flat0 : V → Bool
  | .int _ => true
  | .str _ => true
  | _ => false
def spLike0 : Sp := fun vs H Q _ => ∃ x : V, vs = [x, x] ∧ flat0 x = true ∧ ∀ H', Same H H' → Q (.bl true) H'
def spLike1 : Sp := fun vs H Q _ => ∃ (u v : V) (xs : List V), vs = [u, v] ∧ Tup H u xs ∧ Tup H v xs ∧ xs.all flat0 = true ∧ xs.length ≤ 1000 ∧ ∀ H', Same H H' → Q (.bl true) H'
theorem fit_take (es : List Ent) (ms : List Int) (i : Nat) : (List.range (i + 1)).filter (fitP es ms) = (List.range i).filter (fitP es ms) ++ if fitP es ms i = true then [i] else [] := by
  rw [List.range_succ, List.filter_append, List.filter_cons, List.filter_nil]
theorem nat2_app (xs ys : List Nat) : nat2 (xs ++ ys) = nat2 xs ++ nat2 ys := List.map_append
theorem fitP_at {es : List Ent} {ms : List Int} {i : Nat} {e : Ent} (h : es[i]? = some e) : fitP es ms i = inside e.1 ms := by unfold fitP; rw [h]
theorem fit_len (es : List Ent) (ms : List Int) (i : Nat) : (nat2 ((List.range i).filter (fitP es ms))).length ≤ i := by
  unfold nat2
  rw [List.length_map]
  exact Nat.le_trans (List.length_filter_le _ _) (by rw [List.length_range]; exact Nat.le_refl _)
theorem isi_tl {K : PySem.W.Frag} {a : String} (h1 : kitB a "tuple" = some false) (h2 : kitB a "list" = some false) : PySem.W.kitAny K (.type a) [.type "tuple", .type "list"] = some false :=
  kitAny_cons (b := false) (kit_ty h1) (fun _ => kitAny_cons (b := false) (kit_ty h2) (fun _ => kitAny_nil) (fun h => by cases h)) (fun h => by cases h)
theorem isi_tup {K : PySem.W.Frag} : PySem.W.kitAny K (.type "tuple") [.type "tuple", .type "list"] = some true :=
  kitAny_cons (b := true) (kit_ty (by decide +kernel)) (fun h => by cases h) (fun _ => rfl)
def toD : V → PyData
  | .int i => .int i
  | .str x => .str x
  | _ => .none
theorem dp_one {K : PySem.W.Frag} {H : Hp} {x : V} (h : flat0 x = true) : Dp K H x (toD x) := by
  cases x with
  | int i => exact .int i
  | str z => exact .str z
  | non => cases h
  | bl _ => cases h
  | byt _ => cases h
  | flt _ => cases h
  | ref _ => cases h
  | ty _ => cases h
theorem dp_all {K : PySem.W.Frag} {H : Hp} : ∀ {xs : List V}, xs.all flat0 = true → DpAll K H xs (xs.map toD)
  | [], _ => .nil
  | x :: r, h => by
    rw [List.all_cons, Bool.and_eq_true] at h
    exact .cons (dp_one h.1) (dp_all h.2)
theorem dp_tup {K : PySem.W.Frag} {H : Hp} {v : V} {xs : List V} (t : Tup H v xs) (h : xs.all flat0 = true) : Dp K H v (.tuple (xs.map toD)) := by
  obtain ⟨p, rfl, hp⟩ := t
  exact .tup (sqT hp) (dp_all h)
theorem sh1 : SeqAt.shaped (.tuple [.str "none"]) = true := by decide +kernel
theorem sh2 (i : Int) : SeqAt.shaped (.tuple [.str "entry", .int i]) = true := by
  have h : PyData.canLay0 (.str "entry") = true := by decide +kernel
  simp [SeqAt.shaped, PyData.canLay0, PyData.canLayAll0, PyData.depth, PyData.depthAll]
  simp [PyData.canLay0] at h
  exact h
theorem eqv1 (z : Str) : PyData.eqv (.tuple [.str z]) (.tuple [.str z]) = true := by
  simp [PyData.eqv, PyData.eqvAll]
theorem eqv2 (z : Str) (i j : Int) : PyData.eqv (.tuple [.str z, .int i]) (.tuple [.str z, .int j]) = decide (i = j) := by
  simp [PyData.eqv, PyData.eqvAll]
  try rw [Bool.eq_iff_iff]; simp

theorem fit_cons (e : Ent) (es : List Ent) (ms : List Int) : fitN (e :: es) ms = (if inside e.1 ms = true then [0] else []) ++ (fitN es ms).map (· + 1) := by
  unfold fitN
  rw [List.length_cons, List.range_succ_eq_map, List.filter_cons, List.filter_map]
  have h0 : fitP (e :: es) ms 0 = inside e.1 ms := rfl
  have h1 : (fitP (e :: es) ms ∘ Nat.succ) = fitP es ms := rfl
  rw [h0, h1]
  split <;> rfl
theorem fit_snoc (e : Ent) (es : List Ent) (ms : List Int) : fitN (es ++ [e]) ms = fitN es ms ++ (if inside e.1 ms = true then [es.length] else []) := by
  unfold fitN
  rw [List.length_append, List.length_singleton, List.range_succ, List.filter_append]
  have h0 : fitP (es ++ [e]) ms es.length = inside e.1 ms := by
    unfold fitP
    rw [List.getElem?_append_right (Nat.le_refl _), Nat.sub_self]
    rfl
  rw [List.filter_cons, List.filter_nil, h0]
  congr 1
  refine List.filter_congr fun i hi => ?_
  unfold fitP
  rw [List.getElem?_append_left (List.mem_range.mp hi)]
theorem cat_of {K : PySem.W.Frag} {H : Hp} {xs ys : List V} {a b : Addr} {Q : V → Hp → Prop} (ha : H a = some (.tup xs)) (hb : H b = some (.tup ys)) (hl : xs.length + ys.length ≤ sizeLine)
    (G : ∀ t H', H' t = some (.tup (xs ++ ys)) → Same H H' → Q (.ref t) H') : rCatA K (.ref a) (.ref b) H Q := by
  refine ⟨a, b, xs, ys, rfl, rfl, sqT ha, sqT hb, hl, fun e => ?_, fun _ e => ?_, fun _ _ p hp => ?_⟩
  · subst e
    exact G b H hb (Same.refl H)
  · subst e
    exact G a H (by rw [List.append_nil]; exact ha) (Same.refl H)
  · exact G p _ upd_same (Same.new hp)
theorem spk_flat (js : List Nat) : (spk js).all flat0 = true := by cases js <;> rfl
theorem spk_len (js : List Nat) : (spk js).length ≤ 1000 := by
  cases js with
  | nil => exact (by decide : 1 ≤ 1000)
  | cons j r => exact (by decide : 2 ≤ 1000)
theorem spk_sh (js : List Nat) : SeqAt.shaped (.tuple ((spk js).map toD)) = true := by
  cases js with
  | nil => exact sh1
  | cons j r => exact sh2 _
theorem spk_eqv (js : List Nat) : PyData.eqv (.tuple ((spk js).map toD)) (.tuple ((spk js).map toD)) = true := by
  cases js with
  | nil => exact eqv1 _
  | cons j r =>
    show PyData.eqv (.tuple [.str "entry", .int (j : Int)]) (.tuple [.str "entry", .int (j : Int)]) = true
    rw [eqv2]
    exact decide_eq_true rfl
theorem Same.tfr {H H' : Hp} (f : Same H H') : TFr H H' := TFr.same f
end Xci

namespace Xci
open PySem PySem.Spec PyProof.Rows L2
/-- the numbers that families.py names -/
structure FamCst (mg : Str → Option Value) where
  t1 : Tok
  t2 : Tok
  MOST_MARKS : mg "MOST_MARKS" = some (.int 6 t1)
  MOST_CELLS : mg "MOST_CELLS" = some (.int 24 t2)
/-- the class of families -/
structure FamTxt (K : PySem.W.Frag) (mg : Str → Option Value) (C : Addr) : Prop where
  cl : Cls K C
  nM : NoAttr K C "many"
  nC : NoAttr K C "cells"
  mgC : mg "Family" = some (.ref C)
def famF (many : Int) (p : Addr) : List (Str × V) := [("many", .int many), ("cells", .ref p)]
theorem n_mc : ¬ (("many" : Str) = "cells") := by decide +kernel
theorem putMany (v : V) : putF "many" v [] = [(("many" : Str), v)] := rfl
theorem putCells (v u : V) : putF "cells" u [(("many" : Str), v)] = [(("many" : Str), v), (("cells" : Str), u)] := by
  show (if ("many" : Str) = "cells" then _ else (("many" : Str), v) :: putF "cells" u []) = _
  rw [if_neg n_mc] <;> rfl
theorem famF_many (many : Int) (p : Addr) : (famF many p).lookup ("many" : Str) = some (.int many) := by
  unfold famF
  rw [List.lookup_cons, show ((Str.ofString "many" : Str) == Str.ofString "many") = true from by decide +kernel]
theorem famF_cells (many : Int) (p : Addr) : (famF many p).lookup ("cells" : Str) = some (.ref p) := by
  unfold famF
  rw [List.lookup_cons, show ((Str.ofString "cells" : Str) == Str.ofString "many") = false from by decide +kernel]
  rfl
/-- at b a family of so many marks with the cells at p -/
def FamAt (C : Addr) (H : Hp) (b : Addr) (many : Int) (p : Addr) : Prop := ∃ dx, H b = some (.ins C dx (famF many p))
def spAreCells : Sp := fun vs H Q _ => ∃ (many : Int) (p : Addr) (ys : List V) (cells : List (List Int)), vs = [.int many, .ref p] ∧ H p = some (.tup ys) ∧ Mks H ys cells ∧ FamOk many cells ∧ Q (.bl true) H
def spFam (C : Addr) : Sp := fun vs H Q _ => ∃ (x dx : Addr) (many : Int) (p : Addr) (ys : List V) (cells : List (List Int)), vs = [.ref x, .int many, .ref p] ∧ H x = some (.ins C dx []) ∧ H p = some (.tup ys) ∧ Mks H ys cells ∧ FamOk many cells ∧
  ∀ H' : Hp, FamAt C H' x many p → (∀ b o, H b = some o → b ≠ x → H' b = some o) → Q .non H'
/-- cells, each with the address at which it stands -/
theorem Mks.placed {K : PySem.W.Frag} {H : Hp} : ∀ {ys : List V} {cells : List (List Int)}, Mks H ys cells → ∃ ks : List (Addr × List Int), ys = ks.map (fun p => .ref p.1) ∧ ks.map (·.2) = cells ∧ ∀ p ∈ ks, SqT K H p.1 (p.2.map V.int)
  | _, _, .nil => ⟨[], rfl, rfl, nofun⟩
  | _, _, .cons ⟨a, e, h⟩ t => by
    obtain ⟨ks, e1, e2, e3⟩ := Mks.placed (K := K) t
    refine ⟨(a, _) :: ks, by rw [List.map_cons, ← e1, e], by rw [List.map_cons, e2], fun p hp => ?_⟩
    rcases List.mem_cons.mp hp with z | z
    · rw [z]; exact sqT h
    · exact e3 p z
end Xci

namespace Xci
open PySem PySem.Spec PyProof.Rows L2
/-- a form of a table, or none -/
def formV : Option Str → V
  | some z => .str z
  | none => .non
/-- the unlike forms, rising -/
structure Rising (fs : List (Option Str)) (zs : List Str) : Prop where
  up : sortedS zs = true
  all : ∀ z, z ∈ zs ↔ some z ∈ fs
  nd : zs.Nodup
def spUnlike : Sp := fun vs H Q _ => ∃ (p : Addr) (fs : List (Option Str)), vs = [.ref p] ∧ H p = some (.tup (fs.map formV)) ∧ fs.length < 64 ∧ ∀ (q : Addr) (zs : List Str) (H' : Hp), Rising fs zs → H' q = some (.lst (zs.map V.str)) → Same H H' → Q (.ref q) H'
/-- the class of tables -/
structure TabTxt (K : PySem.W.Frag) (mg : Str → Option Value) (C : Addr) : Prop where
  cl : Cls K C
  nF : NoAttr K C "family"
  nO : NoAttr K C "forms"
  mgC : mg "Table" = some (.ref C)
structure FormCst (mg : Str → Option Value) where
  t1 : Tok
  LONGEST_FORM : mg "LONGEST_FORM" = some (.int 8 t1)
structure TabCst (mg : Str → Option Value) where
  t1 : Tok
  MOST_FORMS : mg "MOST_FORMS" = some (.int 12 t1)
/-- the forms that a table of so many cells can have -/
structure FormsOk (n : Nat) (fs : List (Option Str)) : Prop where
  len : fs.length = n
  few : n ≤ 24
  word : ∀ z, some z ∈ fs → WordOk z
  unlike : ∀ zs, Rising fs zs → zs.length ≤ 12
def spAreForms : Sp := fun vs H Q _ => ∃ (n : Nat) (p : Addr) (fs : List (Option Str)), vs = [.int n, .ref p] ∧ H p = some (.tup (fs.map formV)) ∧ FormsOk n fs ∧ ∀ H', Same H H' → Q (.bl true) H'
def tabF (fam p : Addr) : List (Str × V) := [("family", .ref fam), ("forms", .ref p)]
theorem n_ff : ¬ (("family" : Str) = "forms") := by decide +kernel
theorem putFamily (v : V) : putF "family" v [] = [(("family" : Str), v)] := rfl
theorem putForms (v u : V) : putF "forms" u [(("family" : Str), v)] = [(("family" : Str), v), (("forms" : Str), u)] := by
  show (if ("family" : Str) = "forms" then _ else (("family" : Str), v) :: putF "forms" u []) = _
  rw [if_neg n_ff] <;> rfl
theorem tabF_family (fam p : Addr) : (tabF fam p).lookup ("family" : Str) = some (.ref fam) := by
  unfold tabF
  rw [List.lookup_cons, show ((Str.ofString "family" : Str) == Str.ofString "family") = true from by decide +kernel]
theorem tabF_forms (fam p : Addr) : (tabF fam p).lookup ("forms" : Str) = some (.ref p) := by
  unfold tabF
  rw [List.lookup_cons, show ((Str.ofString "forms" : Str) == Str.ofString "family") = false from by decide +kernel]
  rfl
/-- at b a table of the family at fam with the forms at p -/
def TabAt (C : Addr) (H : Hp) (b fam p : Addr) : Prop := ∃ dx, H b = some (.ins C dx (tabF fam p))
def spTab (CF C : Addr) : Sp := fun vs H Q _ => ∃ (x dx fam : Addr) (many : Int) (pc : Addr) (ys : List V) (p : Addr) (fs : List (Option Str)), vs = [.ref x, .ref fam, .ref p] ∧ H x = some (.ins C dx []) ∧ FamAt CF H fam many pc ∧ x ≠ fam ∧ H pc = some (.tup ys) ∧ H p = some (.tup (fs.map formV)) ∧ FormsOk ys.length fs ∧
  ∀ H' : Hp, TabAt C H' x fam p → (∀ b o, H b = some o → b ≠ x → H' b = some o) → Q .non H'
def spSpoken (C : Addr) : Sp := fun vs H Q _ => ∃ (b fam p : Addr) (fs : List (Option Str)), vs = [.ref b] ∧ TabAt C H b fam p ∧ H p = some (.tup (fs.map formV)) ∧ fs.length < 64 ∧
  ∀ (r : Addr) (zs : List Str) (H' : Hp), Rising fs zs → H' r = some (.tup (zs.map V.str)) → Same H H' → Q (.ref r) H'
def spIsSpoken (C : Addr) : Sp := fun vs H Q _ => ∃ (b fam p : Addr) (fs : List (Option Str)) (z : Str), vs = [.ref b, .str z] ∧ TabAt C H b fam p ∧ H p = some (.tup (fs.map formV)) ∧ some z ∈ fs ∧ Q (.bl true) H
/-- the numbers of the cells with this form -/
def spots (fs : List (Option Str)) (z : Str) : List Nat := (List.range fs.length).filter fun i => decide (fs[i]? = some (some z))
def spCellsOf (C : Addr) : Sp := fun vs H Q _ => ∃ (b fam p : Addr) (fs : List (Option Str)) (z : Str), vs = [.ref b, .str z] ∧ TabAt C H b fam p ∧ H p = some (.tup (fs.map formV)) ∧ fs.length < 64 ∧ some z ∈ fs ∧
  ∀ (r : Addr) (H' : Hp), H' r = some (.tup ((nat2 (spots fs z)).map V.int)) → Same H H' → Q (.ref r) H'
theorem forms_flat (fs : List (Option Str)) : (fs.map formV).all flatV = true := by
  rw [List.all_eq_true]
  intro x hx
  obtain ⟨f, _, rfl⟩ := List.mem_map.mp hx
  cases f <;> rfl
theorem forms_in {fs : List (Option Str)} {z : Str} (h : some z ∈ fs) : inV (.str z) (fs.map formV) = true := by
  unfold inV
  rw [List.any_eq_true]
  refine ⟨.str z, List.mem_map.mpr ⟨some z, h, rfl⟩, ?_⟩
  show eqV (.str z) (.str z) = true
  simp [eqV]
theorem form_scal (f : Option Str) (z : Str) : scal (formV f) (.str z) = true := by cases f <;> rfl
theorem form_is (f : Option Str) (z : Str) : decide (formV f = V.str z) = decide (f = some z) := by
  cases f with
  | none => rfl
  | some y =>
    rw [decide_eq_decide]
    constructor
    · intro h
      injection h with h
      rw [h]
    · intro h
      injection h with h
      rw [h]
      rfl
/-- the spots among the first i cells -/
def spotsTo (fs : List (Option Str)) (z : Str) (i : Nat) : List Nat := (List.range i).filter fun j => decide (fs[j]? = some (some z))
theorem spots_next {fs : List (Option Str)} {z : Str} {i : Nat} {f : Option Str} (e : fs[i]? = some f) : spotsTo fs z (i + 1) = spotsTo fs z i ++ (if decide (f = some z) = true then [i] else []) := by
  unfold spotsTo
  rw [List.range_succ, List.filter_append, List.filter_cons, List.filter_nil, e]
  by_cases q : f = some z
  · rw [if_pos (decide_eq_true q), if_pos (decide_eq_true (congrArg some q))]
  · rw [if_neg (fun h => q (of_decide_eq_true h)), if_neg (fun h => q (Option.some.inj (of_decide_eq_true h)))]
theorem spots_few (fs : List (Option Str)) (z : Str) (i : Nat) : (spotsTo fs z i).length ≤ i := by
  have h := List.length_filter_le (fun j => decide (fs[j]? = some (some z))) (List.range i)
  rw [List.length_range] at h
  exact h
/-- the marks that all cells with this form have -/
def sharedIn (cells : List (List Int)) (fs : List (Option Str)) (z : Str) (m : Int) : Bool := (spots fs z).all fun i => match cells[i]? with
  | some c => decide (m ∈ c)
  | none => true
def spCommon (CF C : Addr) : Sp := fun vs H Q _ => ∃ (b fam p : Addr) (fs : List (Option Str)) (z : Str) (many : Int) (pc : Addr) (ys : List V) (cells : List (List Int)), vs = [.ref b, .str z] ∧ TabAt C H b fam p ∧ H p = some (.tup (fs.map formV)) ∧ FamAt CF H fam many pc ∧ H pc = some (.tup ys) ∧ Mks H ys cells ∧ FamOk many cells ∧ fs.length = cells.length ∧ some z ∈ fs ∧
  ∀ (r : Addr) (ms : List Int) (H' : Hp), H' r = some (.tup (ms.map V.int)) → MarksOk many ms → (∀ m, m ∈ ms ↔ 0 ≤ m ∧ m < many ∧ sharedIn cells fs z m = true) → Same H H' → Q (.ref r) H'
theorem spots_at {fs : List (Option Str)} {z : Str} {j : Nat} : j ∈ spots fs z ↔ fs[j]? = some (some z) := by
  unfold spots
  rw [List.mem_filter, List.mem_range, decide_eq_true_eq]
  exact ⟨fun h => h.2, fun h => ⟨(List.getElem?_eq_some_iff.mp h).1, h⟩⟩
theorem spots_ne {fs : List (Option Str)} {z : Str} (h : some z ∈ fs) : spots fs z ≠ [] := fun e => by
  obtain ⟨j, hj⟩ := List.mem_iff_getElem?.mp h
  have := spots_at.mpr hj
  rw [e] at this
  cases this
theorem spots_len (fs : List (Option Str)) (z : Str) : (spots fs z).length ≤ fs.length := spots_few fs z fs.length
/-- the cells with these numbers -/
def cellsAt (cells : List (List Int)) (js : List Nat) : List (List Int) := js.map fun j => cells.getD j []
theorem cells_placed {H : Hp} {ys : List V} {cells : List (List Int)} (each : Mks H ys cells) : ∀ (js : List Nat), (∀ j ∈ js, j < cells.length) → Mks H (js.map fun j => ys.getD j .non) (cellsAt cells js)
  | [], _ => .nil
  | j :: js, h => by
    have lt := h j List.mem_cons_self
    have len := Paired.length each
    obtain ⟨c, e, m⟩ := Paired.get each (List.getElem?_eq_getElem (show j < ys.length by omega))
    refine .cons ?_ (cells_placed each js fun k hk => h k (List.mem_cons_of_mem _ hk))
    show Xci.Mk H (ys.getD j .non) (cells.getD j [])
    rw [List.getD_eq_getElem?_getD, List.getD_eq_getElem?_getD, e, List.getElem?_eq_getElem (show j < ys.length by omega)]
    exact m
theorem shared_all {cells : List (List Int)} {fs : List (Option Str)} {z : Str} {m : Int} (size : fs.length = cells.length) : sharedIn cells fs z m = (cellsAt cells (spots fs z)).all fun c => decide (m ∈ c) := by
  unfold sharedIn cellsAt
  rw [List.all_map, Bool.eq_iff_iff, List.all_eq_true, List.all_eq_true]
  have one : ∀ j ∈ spots fs z, cells[j]? = some (cells.getD j []) := fun j hj => by
    have lt : j < cells.length := by have := (List.getElem?_eq_some_iff.mp (spots_at.mp hj)).1; omega
    rw [List.getD_eq_getElem?_getD, List.getElem?_eq_getElem lt] <;> rfl
  constructor
  · intro h j hj
    have := h j hj
    rw [one j hj] at this
    exact this
  · intro h j hj
    rw [one j hj]
    exact h j hj
/-- not after -/
def upTo (a b : Str) : Prop := a.cps.toList ≤ b.cps.toList
theorem upTo_of {a b : Str} (h : ltCps b.cps.toList a.cps.toList = false) : upTo a b := by
  rw [ltCps_eq] at h
  exact List.not_lt.mp (of_decide_eq_false h)
theorem rising_pairs : ∀ (x : Str) (r : List Str), risingS x r = true → (∀ y ∈ r, upTo x y) ∧ r.Pairwise upTo
  | _, [], _ => ⟨nofun, .nil⟩
  | x, y :: r, h => by
    have h' : (!ltCps y.cps.toList x.cps.toList && risingS y r) = true := h
    rw [Bool.and_eq_true, Bool.not_eq_true'] at h'
    obtain ⟨a, b⟩ := h'
    obtain ⟨c, d⟩ := rising_pairs y r b
    have xy := upTo_of a
    refine ⟨fun z hz => ?_, List.pairwise_cons.mpr ⟨c, d⟩⟩
    rcases List.mem_cons.mp hz with e | hz
    · rw [e]; exact xy
    · exact List.le_trans xy (c z hz)
theorem sorted_pairs : ∀ (l : List Str), sortedS l = true → l.Pairwise upTo
  | [], _ => .nil
  | x :: r, h => List.pairwise_cons.mpr (rising_pairs x r h)
theorem str_ext {a b : Str} (h : a.cps.toList = b.cps.toList) : a = b := by
  obtain ⟨⟨x⟩⟩ := a
  obtain ⟨⟨y⟩⟩ := b
  have e : x = y := h
  rw [e]
/-- the unlike forms of a table, rising, are one list -/
theorem Rising.one {fs : List (Option Str)} {xs ys : List Str} (h : Rising fs xs) (k : Rising fs ys) : xs = ys :=
  List.Perm.eq_of_pairwise (le := upTo) (fun a b _ _ p q => str_ext (List.le_antisymm p q)) (sorted_pairs xs h.up) (sorted_pairs ys k.up)
    ((List.perm_ext_iff_of_nodup h.nd k.nd).mpr fun z => (h.all z).trans (k.all z).symm)
theorem MarksOk.one {n n' : Int} {xs ys : List Int} (h : MarksOk n xs) (k : MarksOk n' ys) (same : ∀ m, m ∈ xs ↔ m ∈ ys) : xs = ys :=
  List.Perm.eq_of_pairwise (le := (· < ·)) (fun a b _ _ p q => by omega) h.up k.up ((List.perm_ext_iff_of_nodup h.nd k.nd).mpr same)
end Xci

namespace Xci
open PySem L2
/-! ### who speaks, by a relation «beats» -/
inductive Res where
  | none
  | ent (j : Nat)
  | qua (l : List Nat)
/-- n is in js and beats all others -/
def Win (js : List Nat) (beat : Nat → Nat → Bool) (n : Nat) : Prop := n ∈ js ∧ ∀ o ∈ js, o ≠ n → beat n o = true
structure Beat (beat : Nat → Nat → Bool) : Prop where
  irr : ∀ n, beat n n = false
  asy : ∀ n o, beat n o = true → beat o n = false
def winC (js : List Nat) (beat : Nat → Nat → Bool) (n : Nat) : Bool := decide ((js.filter (beat n)).length + 1 = js.length)
def maxB (js : List Nat) (beat : Nat → Nat → Bool) (n : Nat) : Bool := !js.any fun o => beat o n
def lawRes (js : List Nat) (beat : Nat → Nat → Bool) : Res :=
  if js = [] then .none else match js.find? (winC js beat) with
    | some n => .ent n
    | none => .qua (js.filter (maxB js beat))
theorem filt_add {α : Type} (p : α → Bool) : ∀ l : List α, (l.filter p).length + (l.filter fun x => !p x).length = l.length
  | [] => rfl
  | x :: r => by
    have ih := filt_add p r
    rw [List.filter_cons, List.filter_cons]
    cases h : p x
    · simp only [Bool.not_false, if_true, Bool.false_eq_true, if_false, List.length_cons]
      omega
    · simp only [Bool.not_true, if_true, Bool.false_eq_true, if_false, List.length_cons]
      omega
theorem filt_one {α : Type} [DecidableEq α] {p : α → Bool} {l : List α} {n : α} (hn : l.Nodup) (hm : n ∈ l) (hp : p n = true) : (l.filter p).length = 1 ↔ ∀ o ∈ l, o ≠ n → p o = false := by
  constructor
  · intro h o ho hne
    cases q : p o with
    | false => rfl
    | true =>
      obtain ⟨x, hx⟩ := List.length_eq_one_iff.mp h
      have h1 : n ∈ l.filter p := List.mem_filter.mpr ⟨hm, hp⟩
      have h2 : o ∈ l.filter p := List.mem_filter.mpr ⟨ho, q⟩
      rw [hx] at h1 h2
      rw [List.mem_singleton] at h1 h2
      exact absurd (h2.trans h1.symm) hne
  · intro h
    have nd : (l.filter p).Nodup := List.Sublist.nodup List.filter_sublist hn
    have h1 : n ∈ l.filter p := List.mem_filter.mpr ⟨hm, hp⟩
    have h2 : ∀ o ∈ l.filter p, o = n := fun o ho => by
      obtain ⟨a, b⟩ := List.mem_filter.mp ho
      by_cases e : o = n
      · exact e
      · rw [h o a e] at b; cases b
    match hl : l.filter p with
    | [] => rw [hl] at h1; cases h1
    | [x] => rfl
    | x :: y :: r =>
      rw [hl] at h2 nd
      have e1 := h2 x (by simp)
      have e2 := h2 y (by simp)
      rw [e1, e2] at nd
      exact absurd (by simp) (List.nodup_cons.mp nd).1
theorem winC_iff {js : List Nat} {beat : Nat → Nat → Bool} (B : Beat beat) (hn : js.Nodup) {n : Nat} (hm : n ∈ js) : winC js beat n = true ↔ Win js beat n := by
  unfold winC
  rw [decide_eq_true_iff]
  have h1 := filt_add (beat n) js
  have h2 := filt_one (p := fun x => !beat n x) hn hm (by simp [B.irr])
  constructor
  · intro h
    refine ⟨hm, fun o ho hne => ?_⟩
    have := h2.mp (by omega) o ho hne
    simpa using this
  · intro h
    have := h2.mpr fun o ho hne => by simp [h.2 o ho hne]
    omega
theorem Win.uniq {js : List Nat} {beat : Nat → Nat → Bool} (B : Beat beat) {n m : Nat} (h1 : Win js beat n) (h2 : Win js beat m) : n = m := by
  by_cases e : n = m
  · exact e
  · have a := h1.2 m h2.1 (fun q => e q.symm)
    have b := h2.2 n h1.1 e
    rw [B.asy _ _ a] at b
    cases b
theorem lawRes_nil (beat : Nat → Nat → Bool) : lawRes [] beat = .none := rfl
theorem lawRes_ent {js : List Nat} {beat : Nat → Nat → Bool} (B : Beat beat) (hn : js.Nodup) {n : Nat} (h : Win js beat n) : lawRes js beat = .ent n := by
  unfold lawRes
  rw [if_neg (by intro e; rw [e] at h; exact absurd h.1 (by simp))]
  cases q : js.find? (winC js beat) with
  | none =>
    have := List.find?_eq_none.mp q n h.1
    exact absurd ((winC_iff B hn h.1).mpr h) this
  | some m =>
    have h1 := List.find?_some q
    have h2 := List.mem_of_find?_eq_some q
    have e := Win.uniq B h ((winC_iff B hn h2).mp h1)
    rw [e]
theorem lawRes_qua {js : List Nat} {beat : Nat → Nat → Bool} (B : Beat beat) (hn : js.Nodup) (hne : js ≠ []) (h : ∀ n, ¬ Win js beat n) : lawRes js beat = .qua (js.filter (maxB js beat)) := by
  unfold lawRes
  rw [if_neg hne]
  cases q : js.find? (winC js beat) with
  | none => rfl
  | some m =>
    have h1 := List.find?_some q
    have h2 := List.mem_of_find?_eq_some q
    exact absurd ((winC_iff B hn h2).mp h1) (h m)
theorem lawRes_cases {js : List Nat} {beat : Nat → Nat → Bool} (B : Beat beat) (hn : js.Nodup) : (js = [] ∧ lawRes js beat = .none) ∨ (∃ n, Win js beat n ∧ lawRes js beat = .ent n) ∨ (js ≠ [] ∧ (∀ n, ¬ Win js beat n) ∧ lawRes js beat = .qua (js.filter (maxB js beat))) := by
  by_cases e : js = []
  · exact .inl ⟨e, by rw [e]; rfl⟩
  · by_cases h : ∃ n, Win js beat n
    · obtain ⟨n, h⟩ := h
      exact .inr (.inl ⟨n, h, lawRes_ent B hn h⟩)
    · have h' : ∀ n, ¬ Win js beat n := fun n q => h ⟨n, q⟩
      exact .inr (.inr ⟨e, h', lawRes_qua B hn e h'⟩)
/-- the same relation, the same result -/
theorem lawRes_congr {js : List Nat} {b1 b2 : Nat → Nat → Bool} (h : ∀ n ∈ js, ∀ o ∈ js, b1 n o = b2 n o) : lawRes js b1 = lawRes js b2 := by
  have e1 : ∀ n ∈ js, winC js b1 n = winC js b2 n := fun n hn => by
    unfold winC
    rw [List.filter_congr (h n hn)]
  have e2 : ∀ n ∈ js, maxB js b1 n = maxB js b2 n := fun n hn => by
    unfold maxB
    congr 1
    rw [Bool.eq_iff_iff, List.any_eq_true, List.any_eq_true]
    exact ⟨fun ⟨o, ho, q⟩ => ⟨o, ho, by rw [← h o ho n hn]; exact q⟩, fun ⟨o, ho, q⟩ => ⟨o, ho, by rw [h o ho n hn]; exact q⟩⟩
  have e3 : js.find? (winC js b1) = js.find? (winC js b2) := by
    have : ∀ l : List Nat, (∀ n ∈ l, winC js b1 n = winC js b2 n) → l.find? (winC js b1) = l.find? (winC js b2) := by
      intro l
      induction l with
      | nil => intro _; rfl
      | cons x r ih =>
        intro hl
        rw [List.find?_cons, List.find?_cons, hl x (by simp), ih fun n hn => hl n (List.mem_cons_of_mem _ hn)]
    exact this js e1
  unfold lawRes
  rw [e3, List.filter_congr e2]
/-- what the permuted book says -/
inductive Turned (g : Nat → Nat) : Res → Res → Prop
  | none : Turned g .none .none
  | ent (i : Nat) : Turned g (.ent i) (.ent (g i))
  | qua (l' l : List Nat) : (l'.map g).Perm l → Turned g (.qua l') (.qua l)
theorem lawRes_turned {js js' : List Nat} {beat beat' : Nat → Nat → Bool} {g : Nat → Nat} (B : Beat beat) (B' : Beat beat') (hn : js.Nodup) (hp : (js'.map g).Perm js) (hb : ∀ i ∈ js', ∀ o ∈ js', beat' i o = beat (g i) (g o)) : Turned g (lawRes js' beat') (lawRes js beat) := by
  have nd1 : (js'.map g).Nodup := hp.nodup_iff.mpr hn
  have nd' : js'.Nodup := (List.pairwise_map.mp nd1).imp fun h e => h (congrArg g e)
  have inj : ∀ i ∈ js', ∀ o ∈ js', g i = g o → i = o := fun i hi o ho e => by
    obtain ⟨a, ha⟩ := List.getElem?_of_mem hi
    obtain ⟨b, hb⟩ := List.getElem?_of_mem ho
    have q1 : (js'.map g)[a]? = some (g i) := by rw [List.getElem?_map, ha]; rfl
    have q2 : (js'.map g)[b]? = some (g i) := by rw [List.getElem?_map, hb, e]; rfl
    have := nd_ix nd1 q1 q2
    subst this
    exact Option.some.inj (ha.symm.trans hb)
  rcases lawRes_cases B' nd' with ⟨e, r⟩ | ⟨n, h, r⟩ | ⟨e, h, r⟩
  · subst e
    have : js = [] := by
      have := hp.length_eq
      exact List.eq_nil_of_length_eq_zero this.symm
    subst this
    rw [r, lawRes_nil]
    exact .none
  · rw [r, lawRes_ent B hn (n := g n)]
    · exact .ent n
    · refine ⟨hp.subset (List.mem_map_of_mem h.1), fun o ho hne => ?_⟩
      obtain ⟨i, hi, rfl⟩ := List.mem_map.mp (hp.symm.subset ho)
      rw [← hb n h.1 i hi]
      exact h.2 i hi fun e => hne (by rw [e])
  · have hne : js ≠ [] := fun e' => e (by
      rw [e'] at hp
      have := hp.length_eq
      rw [List.length_map] at this
      exact List.eq_nil_of_length_eq_zero this)
    rw [r, lawRes_qua B hn hne fun m hm => ?_]
    · refine .qua _ _ ?_
      have e1 : js'.filter (maxB js' beat') = js'.filter (fun i => maxB js beat (g i)) := by
        refine List.filter_congr fun i hi => ?_
        unfold maxB
        congr 1
        rw [Bool.eq_iff_iff, List.any_eq_true, List.any_eq_true]
        constructor
        · rintro ⟨o, ho, q⟩
          exact ⟨g o, hp.subset (List.mem_map_of_mem ho), by rw [← hb o ho i hi]; exact q⟩
        · rintro ⟨o, ho, q⟩
          obtain ⟨k, hk, rfl⟩ := List.mem_map.mp (hp.symm.subset ho)
          exact ⟨k, hk, by rw [hb k hk i hi]; exact q⟩
      rw [e1]
      have e2 : (js'.filter (fun i => maxB js beat (g i))).map g = (js'.map g).filter (maxB js beat) := by
        rw [List.filter_map]
        rfl
      rw [e2]
      exact hp.filter _
    · obtain ⟨i, hi, rfl⟩ := List.mem_map.mp (hp.symm.subset hm.1)
      refine h i ⟨hi, fun o ho hne => ?_⟩
      rw [hb i hi o ho]
      exact hm.2 (g o) (hp.subset (List.mem_map_of_mem ho)) fun e => hne (inj _ ho _ hi e)
end Xci

namespace Xci
open PySem PySem.Spec PyProof.Rows L2
/-- the tuple at a and the list at b as they stand at each turn, their items in new pairs -/
def ItzM (K : PySem.W.Frag) (a b : Addr) : It :=
  ⟨fun i H => ∃ (xs ys : List V) (x y : V), (SqT K H a xs ∧ SqL K H b ys) ∧ xs[i]? = some x ∧ ys[i]? = some y,
    fun i H v H' => ∃ T x y, v = .ref T ∧ (H T = none ∧ H' = upd H T (.tup [x, y])) ∧ (∀ xs, SqT K H a xs → xs[i]? = some x) ∧ ∀ ys, SqL K H b ys → ys[i]? = some y,
    fun i H => ∃ xs ys : List V, (SqT K H a xs ∧ SqL K H b ys) ∧ xs.length = ys.length ∧ i = xs.length⟩
/-- the state of such a zip at its i-th turn -/
def ZSt (z TI TO i1 i2 a b : Addr) (i : Nat) (h : Heap) : Prop := IsZip h z TI TO .none ∧ IsTupOf2 h TI (.ref i1) (.ref i2) ∧ (∃ p q, IsTupOf2 h TO p q) ∧ h.IsTupleIter i1 a i ∧ h.IsListIter i2 b i
theorem five {c z TI TO i1 i2 : Addr} (h : c ∈ [z, TI, TO, i1, i2]) : c = z ∨ c = TI ∨ c = TO ∨ c = i1 ∨ c = i2 := by simpa using h
theorem ZSt.low {z TI TO i1 i2 a b : Addr} {i : Nat} {h : Heap} (st : ZSt z TI TO i1 i2 a b i h) : ∀ c ∈ [z, TI, TO, i1, i2], c < h.objs.size := by
  obtain ⟨q1, q2, ⟨_, _, q3⟩, ⟨_, q4, _⟩, ⟨_, q5, _⟩⟩ := st
  intro c hc
  rcases five hc with e | e | e | e | e <;> subst e
  · exact Heap.lt_size q1
  · exact Heap.lt_size q2
  · exact Heap.lt_size q3
  · exact Heap.lt_size q4
  · exact Heap.lt_size q5
theorem turn_zipM {P : Program} {w : World} {K : PySem.W.Frag} {elts : List Expr} {kk : Nat} {tpos : Pos} {a b z TI TO i1 i2 : Addr} (S : ZipSep2 z TI TO i1 i2 [i1, a] [i2, b]) (n1 : a ≠ i1) (n2 : b ≠ i2) :
    Turn P w K (.Tuple elts kk tpos) (ItzM K a b) [z, TI, TO, i1, i2] z (ZSt z TI TO i1 i2 a b) where
  mem := by simp
  self := fun _ _ _ _ _ st q => wpAny_pyIter_zip st.1 q
  keep := fun i h h' st k => by
    obtain ⟨q1, q2, ⟨p, q, q3⟩, q4, q5⟩ := st
    exact ⟨k _ (by simp) _ q1, k _ (by simp) _ q2, ⟨p, q, k _ (by simp) _ q3⟩, q4.at fun o e => k _ (by simp) o e, q5.at fun o e => k _ (by simp) o e⟩
  obj := fun i h st c hc => by
    obtain ⟨q1, q2, ⟨_, _, q3⟩, ⟨o4, q4, _, d4⟩, ⟨o5, q5, _, d5⟩⟩ := st
    rcases five hc with e | e | e | e | e <;> subst e
    · exact ⟨_, q1, fun v q => nomatch q⟩
    · exact ⟨_, q2, fun v q => nomatch q⟩
    · exact ⟨_, q3, fun v q => nomatch q⟩
    · exact ⟨o4, q4, fun v q => by rw [d4] at q; cases q⟩
    · exact ⟨o5, q5, fun v q => by rw [d5] at q; cases q⟩
  item := by
    intro X hP hw hK hc i pins s σ H E I hf st hg
    subst hP hw hK
    have low := st.low
    obtain ⟨q1, q2, ⟨p, q, q3⟩, q4, q5⟩ := st
    obtain ⟨xs, ys, x, y, ⟨hx, hy⟩, ex, ey⟩ := hg
    obtain ⟨us, rx, tx, _⟩ := I.tuple hx
    obtain ⟨vs, ry, ty, _⟩ := I.list hy
    obtain ⟨u, eu, ru⟩ := rx.get ex
    obtain ⟨v, ev, rv⟩ := ry.get ey
    have lu : i < us.toArray.size := by simpa using (List.getElem?_eq_some_iff.mp eu).1
    have lv : i < vs.toArray.size := by simpa using (List.getElem?_eq_some_iff.mp ev).1
    have calm : X.A.in1.handled = none := I.ok.hd hc
    refine wpAny_pyNext_zipD2_item (prog := X.prog) (w := X.w) (A := X.A) S (Draws.tuple calm i1 a n1 us.toArray) (Draws.list calm i2 b n2 vs.toArray) q1 q2 q3 ⟨q4, tx⟩ ⟨q5, ty.isList⟩ lu lv fun u' v' h' tk eu' ev' z' TO' s1' s2' hT hsz hk => ?_
    obtain rfl : u' = u := Option.some.inj (eu'.symm.trans (by simpa using eu))
    obtain rfl : v' = v := Option.some.inj (ev'.symm.trans (by simpa using ev))
    refine ⟨_, rfl, wpAny_letOwnedTupleGo_zip (s := { s with heap := h', toks := tk }) z' fun h'' z'' sb => ?_⟩
    have zl : z < s.heap.objs.size := low z (by simp)
    have top : h''.get? s.heap.objs.size = some { cls := .type "tuple", data := .seq #[u', v'] } := (sb.2 _ (Nat.ne_of_gt zl)).trans hT
    have made : ObjOk X.prog X.w (upd H s.heap.objs.size (.tup [x, y])) h'' s.heap.objs.size (.tup [x, y]) := ⟨by show 2 ≤ sizeLine; decide, [u', v'], .cons ru (.cons rv .nil), _, top, rfl, _, rfl⟩
    have all : ∀ c o, c ∉ [z, TI, TO, i1, i2] → s.heap.get? c = some o → h''.get? c = some o := fun c o hb e =>
      (sb.2 c fun e' => hb (by simp [e'])).trans (hk c o (fun e' => hb (by simp [e'])) (fun e' => hb (by simp [e'])) (fun e' => hb (by simp [e'])) (fun e' => hb (by simp [e'])) e)
    have I1 : Inv X pins σ (upd H s.heap.objs.size (.tup [x, y])) { s with heap := h'', toks := tk } := I.turnedNew (ch := [z, TI, TO, i1, i2]) all hf (Nat.le_refl _) made
    refine ⟨.ref s.heap.objs.size, _, I1, rfl, ⟨_, x, y, rfl, ⟨I.hok.fresh (Nat.le_refl _), rfl⟩, fun l hl => by rw [I.tuple_inj hl hx]; exact ex, fun l hl => by rw [I.list_inj hl hy]; exact ey⟩, ⟨z'', ?_, ⟨u', v', ?_⟩, ?_, ?_⟩, fun c hcm => ?_⟩
    · exact (sb.2 _ S.TIz).trans (hk _ _ S.TIz S.TITO S.TIi1 S.TIi2 q2)
    · exact (sb.2 _ S.TOz).trans TO'
    · exact s1'.1.at fun o e => (sb.2 _ (Ne.symm S.zi1)).trans e
    · exact s2'.1.at fun o e => (sb.2 _ (Ne.symm S.zi2)).trans e
    · rw [upd_ne (Nat.ne_of_lt (low c hcm))]
      exact (hf c hcm).1
  done := by
    intro X hP hw hK hc i pins s σ H E I hf st hg
    subst hP hw hK
    obtain ⟨q1, q2, ⟨p, q, q3⟩, q4, q5⟩ := st
    obtain ⟨xs, ys, ⟨hx, hy⟩, el, rfl⟩ := hg
    obtain ⟨us, rx, tx, _⟩ := I.tuple hx
    obtain ⟨vs, ry, ty, _⟩ := I.list hy
    have l1 : xs.length = us.toArray.size := by rw [rx.length]; simp
    have l2 : ys.length = vs.toArray.size := by rw [ry.length]; simp
    have calm : X.A.in1.handled = none := I.ok.hd hc
    exact wpAny_pyNext_zipD2_end (prog := X.prog) (w := X.w) (A := X.A) S (Draws.tuple calm i1 a n1 us.toArray) (Draws.list calm i2 b n2 vs.toArray) q1 q2 q3 ⟨q4, tx⟩ ⟨q5, ty.isList⟩ (by omega) (by omega) (.inl l1) fun h' tk hk =>
      ⟨rfl, I.turnedL (t' := tk) (ch := [z, TI, TO, i1, i2]) (fun c o hb e => hk c o (fun e' => hb (by simp [e'])) (fun e' => hb (by simp [e'])) (fun e' => hb (by simp [e'])) (fun e' => hb (by simp [e'])) e) hf⟩
def iZipM (K : PySem.W.Frag) (ta : TA) : TI := fun σ H R => ta σ H fun vs H1 => ∃ a b xs ys, vs = [.ref a, .ref b] ∧ (SqT K H1 a xs ∧ SqL K H1 b ys) ∧ R (ItzM K a b) H1
theorem pi_zipM {X : Cx} {e e2 : Expr} {ta : TA} {p pos tpos : Pos} {elts : List Expr} {kk : Nat} (hg : Gl X "zip") (hm : X.mg "zip" = none) (ha : PA X [e, e2] ta)
    (hs : starEach [e, e2] X.env = (false, eval e X.env) :: starEach [e2] X.env := by rfl) (hpl : (backTo pos (starEach [e2] X.env)).any (·.1) = false := by rfl) :
    PI X (.Tuple elts kk tpos) (.Call (.Name "zip" p) [e, e2] [] pos) (iZipM X.K ta) := by
  refine ⟨fun pins s σ H R I h => Call_ (ld_blt I hg hm boot_zip (callWith_type1 (thn (ha.run pos pins s σ H _ I h) fun us s1 ⟨vs, H1, I1, r1, q1⟩ => ?_) hs hpl))⟩
  obtain ⟨a, b, xs, ys, rfl, ⟨hx, hy⟩, q⟩ := q1
  obtain ⟨u1, u2, rfl, r, r'⟩ := vals2 r1
  cases r
  cases r'
  obtain ⟨us, rx, tx, _⟩ := I1.tuple hx
  obtain ⟨vs, ry, ty, _⟩ := I1.list hy
  have al : a < s1.heap.objs.size := by obtain ⟨_, e, _⟩ := id tx; exact Heap.lt_size e
  have bl : b < s1.heap.objs.size := by obtain ⟨_, e, _⟩ := id ty.isList; exact Heap.lt_size e
  have sep := zip_sep2 (N := s1.heap.objs.size) (fp1 := [a]) (fp2 := [b]) (fun c hc => by rw [List.mem_singleton.mp hc]; exact al) (fun c hc => by rw [List.mem_singleton.mp hc]; exact bl)
  refine zip_begins2 (begins_tuple a us.toArray) (begins_list b vs.toArray) tx ty.isList fun h' z' TI' TO' o1 o2 hsz hk => wpAny_pyIter_zip z' ?_
  refine ⟨s1.heap.objs.size + 4, [s1.heap.objs.size + 4, s1.heap.objs.size + 2, s1.heap.objs.size + 3, s1.heap.objs.size, s1.heap.objs.size + 1], _, _, H1, rfl, I1.kept (t' := s1.toks) hk, turn_zipM sep (Nat.ne_of_lt al) (Nat.ne_of_lt (Nat.lt_succ_of_lt bl)),
    ⟨z', TI', ⟨_, _, TO'⟩, ⟨_, o1, rfl, rfl⟩, ⟨_, o2, rfl, rfl⟩⟩, fun c hc => ?_, q⟩
  have low : s1.heap.objs.size ≤ c := by
    rcases five hc with e | e | e | e | e <;> rw [e]
    · exact Nat.le_add_right _ _
    · exact Nat.le_add_right _ _
    · exact Nat.le_add_right _ _
    · exact Nat.le_refl _
    · exact Nat.le_add_right _ _
  exact I1.fpOk low (I1.hok.fresh low)
theorem walk_zipM {K : PySem.W.Frag} {a b : Addr} {xs ys : List V} (hl : xs.length = ys.length) : Walk (ItzM K a b) xs.length (fun H => SqT K H a xs ∧ SqL K H b ys) (fun i H v H' => ∃ T x y, v = .ref T ∧ H T = none ∧ H' = upd H T (.tup [x, y]) ∧ xs[i]? = some x ∧ ys[i]? = some y) :=
  ⟨fun i H hi q => ⟨xs, ys, xs[i], ys[i]'(hl ▸ hi), q, List.getElem?_eq_getElem hi, List.getElem?_eq_getElem (hl ▸ hi)⟩, fun H q => ⟨xs, ys, q, hl, rfl⟩, fun i H v H' hi q ⟨T, x, y, e1, ⟨e2, e3⟩, f, g⟩ => ⟨T, x, y, e1, e2, e3, f xs q.1, g ys q.2⟩⟩
end Xci

namespace Xci
open PySem L2
/-! ### the manners -/
def rk (man : Str) (ws : List Int) (ms : List Int) : Int := if man = "weights" then (ms.map fun m => ws.getD m.toNat 0).sum else (ms.length : Int)
def beatM (man : Str) (ws : List Int) (ms ns : List Int) : Bool := if man = "within" then inside ns ms && decide (ns.length < ms.length) else decide (rk man ws ns < rk man ws ms)
def mkA (es : List Ent) (j : Nat) : List Int := match es[j]? with
  | some e => e.1
  | none => []
def beatA (man : Str) (ws : List Int) (es : List Ent) (n o : Nat) : Bool := beatM man ws (mkA es n) (mkA es o)
theorem mkA_at {es : List Ent} {j : Nat} {e : Ent} (h : es[j]? = some e) : mkA es j = e.1 := by unfold mkA; rw [h]
theorem n_ww : ¬ (("within" : Str) = "weights") := by decide +kernel
theorem n_mostw : ¬ (("most" : Str) = "weights") := by decide +kernel
theorem n_mosti : ¬ (("most" : Str) = "within") := by decide +kernel
theorem n_wi : ¬ (("weights" : Str) = "within") := by decide +kernel
theorem beatM_ok (man : Str) (ws : List Int) (ms : List Int) : beatM man ws ms ms = false := by
  unfold beatM
  split
  · simp
  · exact decide_eq_false (by omega)
theorem beatM_asy {man : Str} {ws : List Int} {ms ns : List Int} (h : beatM man ws ms ns = true) : beatM man ws ns ms = false := by
  unfold beatM at h ⊢
  split at h
  · rename_i e
    rw [if_pos e]
    rw [Bool.and_eq_true, decide_eq_true_iff] at h
    have : decide (ms.length < ns.length) = false := decide_eq_false (by omega)
    rw [this, Bool.and_false]
  · rename_i e
    rw [if_neg e]
    rw [decide_eq_true_iff] at h
    exact decide_eq_false (by omega)
theorem beatA_ok (man : Str) (ws : List Int) (es : List Ent) : Beat (beatA man ws es) := ⟨fun n => beatM_ok _ _ _, fun n o h => beatM_asy h⟩
/-- the highest ones -/
def hi (js : List Nat) (r : Nat → Int) (m : Int) : List Nat := js.filter fun j => decide (r j = m)
structure IsMax (js : List Nat) (r : Nat → Int) (m : Int) : Prop where
  at_ : ∃ j ∈ js, r j = m
  le : ∀ j ∈ js, r j ≤ m
theorem hi_one {js : List Nat} {r : Nat → Int} {m : Int} {n : Nat} (M : IsMax js r m) (h : hi js r m = [n]) : n ∈ js ∧ r n = m ∧ ∀ o ∈ js, o ≠ n → r o < r n := by
  have h1 : n ∈ hi js r m := by rw [h]; simp
  obtain ⟨a, b⟩ := List.mem_filter.mp h1
  have b := of_decide_eq_true b
  refine ⟨a, b, fun o ho hne => ?_⟩
  have l := M.le o ho
  by_cases e : r o = m
  · have : o ∈ hi js r m := List.mem_filter.mpr ⟨ho, decide_eq_true e⟩
    rw [h] at this
    exact absurd (List.mem_singleton.mp this) hne
  · omega
theorem hi_many {js : List Nat} {r : Nat → Int} {m : Int} (hn : js.Nodup) (M : IsMax js r m) (h : 1 < (hi js r m).length) (x : Nat) (hx : x ∈ js) : ∃ o ∈ js, o ≠ x ∧ r x ≤ r o := by
  have nd : (hi js r m).Nodup := List.Sublist.nodup List.filter_sublist hn
  match hl : hi js r m with
  | [] => rw [hl] at h; simp at h
  | [y] => rw [hl] at h; simp at h
  | y :: z :: t =>
    rw [hl] at nd
    have hyz : y ≠ z := fun e => (List.nodup_cons.mp nd).1 (by rw [e]; simp)
    have hy : y ∈ hi js r m := by rw [hl]; simp
    have hz : z ∈ hi js r m := by rw [hl]; simp
    obtain ⟨a1, b1⟩ := List.mem_filter.mp hy
    obtain ⟨a2, b2⟩ := List.mem_filter.mp hz
    have b1 := of_decide_eq_true b1
    have b2 := of_decide_eq_true b2
    have l := M.le x hx
    by_cases e : y = x
    · exact ⟨z, a2, fun q => hyz (by rw [e, q]), by omega⟩
    · exact ⟨y, a1, e, by omega⟩
theorem hi_ne {js : List Nat} {r : Nat → Int} {m : Int} (M : IsMax js r m) : hi js r m ≠ [] := by
  obtain ⟨j, hj, e⟩ := M.at_
  intro q
  have : j ∈ hi js r m := List.mem_filter.mpr ⟨hj, decide_eq_true e⟩
  rw [q] at this
  cases this
def rkA (man : Str) (ws : List Int) (es : List Ent) (j : Nat) : Int := rk man ws (mkA es j)
/-- what beats has the greater rank -/
theorem beat_rk {man : Str} {ws : List Int} {es : List Ent} {n o : Nat} (hw : man ≠ "weights" ∨ man ≠ "within") (h : beatA man ws es n o = true) : rkA man ws es o < rkA man ws es n := by
  unfold beatA beatM at h
  split at h
  · rename_i e
    subst e
    rw [Bool.and_eq_true, decide_eq_true_iff] at h
    unfold rkA rk
    rw [if_neg n_ww, if_neg n_ww]
    omega
  · exact of_decide_eq_true h
theorem many_noWin {man : Str} {ws : List Int} {es : List Ent} {js : List Nat} {m : Int} (hn : js.Nodup) (M : IsMax js (rkA man ws es) m) (h : 1 < (hi js (rkA man ws es) m).length) (n : Nat) : ¬ Win js (beatA man ws es) n := fun w => by
  obtain ⟨o, ho, hne, l⟩ := hi_many hn M h n w.1
  have hw : man ≠ "weights" ∨ man ≠ "within" := by
    by_cases e : man = "weights"
    · exact .inr (by rw [e]; exact n_wi)
    · exact .inl e
  have := beat_rk hw (w.2 o ho hne)
  omega
theorem one_Win {man : Str} {ws : List Int} {es : List Ent} {js : List Nat} {m : Int} {n : Nat} (hm : man ≠ "within") (M : IsMax js (rkA man ws es) m) (h : hi js (rkA man ws es) m = [n]) : Win js (beatA man ws es) n := by
  obtain ⟨a, b, l⟩ := hi_one M h
  refine ⟨a, fun o ho hne => ?_⟩
  unfold beatA beatM
  rw [if_neg hm]
  exact decide_eq_true (l o ho hne)
def holds (es : List Ent) (js : List Nat) (n : Nat) : Bool := js.all fun o => inside (mkA es o) (mkA es n)
theorem rk_within (ws : List Int) (es : List Ent) (j : Nat) : rkA "within" ws es j = ((mkA es j).length : Int) := by
  unfold rkA rk
  rw [if_neg n_ww]
theorem within_Win {ws : List Int} {es : List Ent} {js : List Nat} {m : Int} {n : Nat} (M : IsMax js (rkA "within" ws es) m) (h : hi js (rkA "within" ws es) m = [n]) (hh : holds es js n = true) : Win js (beatA "within" ws es) n := by
  obtain ⟨a, b, l⟩ := hi_one M h
  refine ⟨a, fun o ho hne => ?_⟩
  unfold beatA beatM
  rw [if_pos rfl, Bool.and_eq_true]
  have := l o ho hne
  rw [rk_within, rk_within] at this
  exact ⟨List.all_eq_true.mp hh o ho, decide_eq_true (by omega)⟩
theorem within_noWin {ws : List Int} {es : List Ent} {js : List Nat} {m : Int} {n : Nat} (M : IsMax js (rkA "within" ws es) m) (h : hi js (rkA "within" ws es) m = [n]) (hh : holds es js n = false) (k : Nat) : ¬ Win js (beatA "within" ws es) k := fun w => by
  obtain ⟨a, b, l⟩ := hi_one M h
  have e : n = k := by
    by_cases e : n = k
    · exact e
    · have h1 := beat_rk (.inl n_ww) (w.2 n a e)
      have h2 := l k w.1 (fun q => e q.symm)
      omega
  subst e
  have : holds es js n = true := List.all_eq_true.mpr fun o ho => by
    by_cases e : o = n
    · subst e
      exact List.all_eq_true.mpr fun m hm => decide_eq_true hm
    · have q := w.2 o ho e
      unfold beatA beatM at q
      rw [if_pos rfl, Bool.and_eq_true] at q
      exact q.1
  rw [this] at hh
  cases hh
/-- without a greatest one: the highest are those whom none beats -/
theorem hi_maxB {man : Str} {ws : List Int} {es : List Ent} {js : List Nat} {m : Int} (hm : man ≠ "within") (M : IsMax js (rkA man ws es) m) : js.filter (maxB js (beatA man ws es)) = hi js (rkA man ws es) m := by
  unfold hi
  refine List.filter_congr fun j hj => ?_
  unfold maxB
  have l := M.le j hj
  rw [Bool.eq_iff_iff, decide_eq_true_iff, Bool.not_eq_true', List.any_eq_false]
  constructor
  · intro h
    obtain ⟨o, ho, e⟩ := M.at_
    have := h o ho
    unfold beatA beatM at this
    rw [if_neg hm] at this
    have q : ¬ rkA man ws es j < rkA man ws es o := fun z => this (decide_eq_true z)
    omega
  · intro h o ho
    unfold beatA beatM
    rw [if_neg hm]
    have l2 := M.le o ho
    intro z
    have z := of_decide_eq_true z
    have z : rkA man ws es j < rkA man ws es o := z
    omega
def outdone (es : List Ent) (js : List Nat) (n : Nat) : Bool := (js.filter fun o => decide ((mkA es n).length < (mkA es o).length)).any fun o => inside (mkA es n) (mkA es o)
theorem out_maxB {ws : List Int} {es : List Ent} {js : List Nat} : js.filter (maxB js (beatA "within" ws es)) = js.filter fun n => !outdone es js n := by
  refine List.filter_congr fun j hj => ?_
  unfold maxB outdone
  congr 1
  rw [List.any_filter]
  congr 1
  funext o
  unfold beatA beatM
  rw [if_pos rfl, Bool.and_comm]
/-! ### results as values -/
def ResAt (H : Hp) (v : V) : Res → Prop
  | .none => Tup H v [.str "none"]
  | .ent j => Tup H v [.str "entry", .int (j : Int)]
  | .qua l => ∃ t, Tup H v [.str "quarrel", .ref t] ∧ H t = some (.tup ((nat2 l).map V.int))
theorem ResAt.keep {H H' : Hp} {v : V} {r : Res} (f : TFr H H') (h : ResAt H v r) : ResAt H' v r := by
  cases r with
  | none => exact Tup.keep f h
  | ent j => exact Tup.keep f h
  | qua l =>
    obtain ⟨t, a, b⟩ := h
    exact ⟨t, a.keep f, f _ _ b⟩
def resD : Res → PyData
  | .none => .tuple [.str "none"]
  | .ent j => .tuple [.str "entry", .int (j : Int)]
  | .qua l => .tuple [.str "quarrel", .tuple ((nat2 l).map PyData.int)]
theorem toD_ints (ns : List Int) : (ns.map V.int).map toD = ns.map PyData.int := by
  rw [List.map_map]
  rfl
theorem flat0_ints (ns : List Int) : (ns.map V.int).all flat0 = true := by
  rw [List.all_map]; exact List.all_eq_true.mpr fun _ _ => rfl
theorem dp_res {K : PySem.W.Frag} {H : Hp} {v : V} {r : Res} (h : ResAt H v r) : Dp K H v (resD r) := by
  cases r with
  | none => exact dp_tup h rfl
  | ent j => exact dp_tup h rfl
  | qua l =>
    obtain ⟨t, ⟨p, rfl, hp⟩, ht⟩ := h
    have q := dp_tup (K := K) (v := .ref t) ⟨t, rfl, ht⟩ (flat0_ints (nat2 l))
    rw [toD_ints] at q
    exact .tup (sqT hp) (.cons (.str _) (.cons q .nil))
theorem lay_ints (ns : List Int) : PyData.canLayAll0 (ns.map PyData.int) = true ∧ PyData.depthAll (ns.map PyData.int) = 0 := by
  induction ns with
  | nil => exact ⟨rfl, rfl⟩
  | cons n r ih =>
    rw [List.map_cons]
    simp [PyData.canLayAll0, PyData.depthAll, PyData.canLay0, PyData.depth, ih.1, ih.2]
theorem sh_ints (ns : List Int) : SeqAt.shaped (.list (ns.map PyData.int)) = true := by
  obtain ⟨a, b⟩ := lay_ints ns
  simp [SeqAt.shaped, PyData.canLay0, PyData.depth, a, b]
theorem eqv_ints (ns : List Int) : PyData.eqvAll (ns.map PyData.int) (ns.map PyData.int) = true := by
  induction ns with
  | nil => rfl
  | cons n r ih =>
    rw [List.map_cons]
    simp [PyData.eqvAll, PyData.eqv, ih]
theorem sh_res (r : Res) : SeqAt.shaped (resD r) = true := by
  cases r with
  | none => exact sh1
  | ent j => exact sh2 _
  | qua l =>
    obtain ⟨a, b⟩ := lay_ints (nat2 l)
    have h : PyData.canLay0 (.str "quarrel") = true := by decide +kernel
    simp [resD, SeqAt.shaped, PyData.canLay0, PyData.canLayAll0, PyData.depth, PyData.depthAll, a, b]
    simpa [PyData.canLay0] using h
theorem eqv_res (r : Res) : PyData.eqv (resD r) (resD r) = true := by
  cases r with
  | none => exact eqv1 _
  | ent j =>
    show PyData.eqv (.tuple [.str "entry", .int (j : Int)]) (.tuple [.str "entry", .int (j : Int)]) = true
    rw [eqv2]
    exact decide_eq_true rfl
  | qua l =>
    have := eqv_ints (nat2 l)
    simp [resD, PyData.eqv, PyData.eqvAll, this]
/-! ### books of all manners -/
def WtIs (H : Hp) (man : Str) (wt : V) (ws : List Int) : Prop := (man ≠ "weights" ∧ wt = .non) ∨ (man = "weights" ∧ Xci.Mk H wt ws ∧ ws.length = 6 ∧ ∀ x ∈ ws, 0 ≤ x ∧ x ≤ 1000000)
theorem WtIs.keep {H H' : Hp} {man : Str} {wt : V} {ws : List Int} (f : TFr H H') (h : WtIs H man wt ws) : WtIs H' man wt ws := h.imp id fun ⟨a, b, c⟩ => ⟨a, Tup.keep f b, c⟩
theorem WtIs.ok {H : Hp} {man : Str} {wt : V} {ws : List Int} (h : WtIs H man wt ws) : WtOk H man wt := h.imp id fun ⟨a, b, c⟩ => ⟨a, ws, b, c⟩
structure BookSt (C : Addr) (H : Hp) (b : Addr) (man : Str) (ws : List Int) (es : List Ent) : Prop where
  ex : ∃ (p : Addr) (wt : V) (ys : List V), BookAt C H b man p wt ∧ H p = some (.tup ys) ∧ Ents H ys es ∧ WtIs H man wt ws
  ok : ∀ e ∈ es, EntOk e
  len : es.length ≤ 40
theorem BookSt.same {C : Addr} {H H' : Hp} {b : Addr} {man : Str} {ws : List Int} {es : List Ent} (h : BookSt C H b man ws es) (f : Same H H') : BookSt C H' b man ws es := by
  obtain ⟨⟨p, wt, ys, ⟨dx, a1⟩, a2, a3, a4⟩, b1, b2⟩ := h
  exact ⟨⟨p, wt, ys, ⟨dx, f _ _ a1⟩, f _ _ a2, Ents.keep (TFr.same f) a3, a4.keep (TFr.same f)⟩, b1, b2⟩
/-- the numbers js, all of entries -/
def Nums (H : Hp) (q : Addr) (js : List Nat) : Prop := H q = some (.tup ((nat2 js).map V.int))
theorem num_of {js : List Nat} {i : Nat} {y : V} (h : ((nat2 js).map V.int)[i]? = some y) : ∃ j, js[i]? = some j ∧ y = V.int (j : Int) := by
  obtain ⟨z, hz, rfl⟩ := int_of h
  unfold nat2 at hz
  rw [List.getElem?_map] at hz
  cases e : js[i]? with
  | none => rw [e] at hz; cases hz
  | some j => rw [e] at hz; exact ⟨j, rfl, by rw [← Option.some.inj hz]⟩
theorem nat2_len (js : List Nat) : (nat2 js).length = js.length := by unfold nat2; rw [List.length_map]
def spRank (C : Addr) : Sp := fun vs H Q _ => ∃ (b : Addr) (man : Str) (ws : List Int) (es : List Ent) (j : Nat), vs = [.ref b, .int (j : Int)] ∧ BookSt C H b man ws es ∧ j < es.length ∧ ∀ H', Same H H' → Q (.int (rkA man ws es j)) H'
def spHighest (C : Addr) : Sp := fun vs H Q _ => ∃ (b q : Addr) (man : Str) (ws : List Int) (es : List Ent) (js : List Nat), vs = [.ref b, .ref q] ∧ BookSt C H b man ws es ∧ Nums H q js ∧ (∀ j ∈ js, j < es.length) ∧ js ≠ [] ∧ js.length ≤ 40 ∧
  ∀ (t : Addr) (m : Int) (H' : Hp), IsMax js (rkA man ws es) m → Nums H' t (hi js (rkA man ws es) m) → Same H H' → Q (.ref t) H'
def spHolds (C : Addr) : Sp := fun vs H Q _ => ∃ (b q : Addr) (man : Str) (ws : List Int) (es : List Ent) (js : List Nat) (n : Nat), vs = [.ref b, .int (n : Int), .ref q] ∧ BookSt C H b man ws es ∧ Nums H q js ∧ (∀ j ∈ js, j < es.length) ∧ n < es.length ∧ js.length ≤ 40 ∧ ∀ H', Same H H' → Q (.bl (holds es js n)) H'
def spOutdone (C : Addr) : Sp := fun vs H Q _ => ∃ (b q : Addr) (man : Str) (ws : List Int) (es : List Ent) (js : List Nat) (n : Nat), vs = [.ref b, .int (n : Int), .ref q] ∧ BookSt C H b man ws es ∧ Nums H q js ∧ (∀ j ∈ js, j < es.length) ∧ n < es.length ∧ js.length ≤ 40 ∧ ∀ H', Same H H' → Q (.bl (outdone es js n)) H'
def Man3 (man : Str) : Prop := man = "within" ∨ man = "weights" ∨ man = "most"
def spQuarrel (C : Addr) : Sp := fun vs H Q _ => ∃ (b q : Addr) (man : Str) (ws : List Int) (es : List Ent) (js : List Nat), vs = [.ref b, .ref q] ∧ BookSt C H b man ws es ∧ Nums H q js ∧ (∀ j ∈ js, j < es.length) ∧ js ≠ [] ∧ js.length ≤ 40 ∧
  ∀ (t : Addr) (H' : Hp), Nums H' t (js.filter (maxB js (beatA man ws es))) → Same H H' → Q (.ref t) H'
def resV : Res → V
  | .ent j => .int (j : Int)
  | _ => .non
def spSpeaking (C : Addr) : Sp := fun vs H Q _ => ∃ (b q : Addr) (man : Str) (ws : List Int) (es : List Ent) (js : List Nat), vs = [.ref b, .ref q] ∧ BookSt C H b man ws es ∧ Man3 man ∧ Nums H q js ∧ (∀ j ∈ js, j < es.length) ∧ js.Nodup ∧ js.length ≤ 40 ∧
  ∀ H', Same H H' → Q (resV (lawRes js (beatA man ws es))) H'
def spSpeaker (C : Addr) : Sp := fun vs H Q _ => ∃ (b : Addr) (v : V) (man : Str) (ws : List Int) (es : List Ent) (ms : List Int), vs = [.ref b, v] ∧ BookSt C H b man ws es ∧ Man3 man ∧ Xci.Mk H v ms ∧ MarksOk 6 ms ∧
  ∀ (u : V) (H' : Hp), ResAt H' u (lawRes (fitN es ms) (beatA man ws es)) → Same H H' → Q u H'
def spBeats : Sp := fun vs H Q _ => ∃ (man : Str) (wt u v : V) (ws ms ns : List Int), vs = [.str man, wt, u, v] ∧ Man3 man ∧ WtIs H man wt ws ∧ Xci.Mk H u ms ∧ Xci.Mk H v ns ∧ MarksOk 6 ms ∧ MarksOk 6 ns ∧ ∀ H', Same H H' → Q (.bl (beatM man ws ms ns)) H'
def spSum : Sp := fun vs H Q _ => ∃ (wt u : V) (ws ms : List Int), vs = [wt, u] ∧ Xci.Mk H wt ws ∧ ws.length = 6 ∧ Xci.Mk H u ms ∧ MarksOk 6 ms ∧ ∀ H', Same H H' → Q (.int (ms.map fun m => ws.getD m.toNat 0).sum) H'
def spProper : Sp := fun vs H Q _ => ∃ (u v : V) (ms ns : List Int), vs = [u, v] ∧ Xci.Mk H u ms ∧ Xci.Mk H v ns ∧ ms.length ≤ 1000 ∧ ∀ H', Same H H' → Q (.bl (inside ms ns && decide (ms.length < ns.length))) H'
def spSpeaks (K : PySem.W.Frag) : Sp := fun vs H Q _ => ∃ (man : Str) (p : Addr) (wt v : V) (ys : List V) (ws : List Int) (es : List Ent) (ms : List Int), vs = [.str man, .ref p, wt, v] ∧ Man3 man ∧ WtIs H man wt ws ∧ H p = some (.tup ys) ∧ Ents H ys es ∧ (∀ e ∈ es, EntOk e) ∧ es.length ≤ 1000 ∧ Xci.Mk H v ms ∧
  ∀ (u : V) (H' : Hp), ResAt H' u (lawRes (fitN es ms) (beatA man ws es)) → Same H H' → Q u H'
theorem fit_nd (es : List Ent) (ms : List Int) : (fitN es ms).Nodup := List.Sublist.nodup List.filter_sublist List.nodup_range
theorem fit_lt {es : List Ent} {ms : List Int} : ∀ j ∈ fitN es ms, j < es.length := fun j hj => List.mem_range.mp (List.mem_filter.mp hj).1
theorem fitN_len (es : List Ent) (ms : List Int) : (fitN es ms).length ≤ es.length := Nat.le_trans (List.length_filter_le _ _) (by rw [List.length_range]; exact Nat.le_refl _)
end Xci

namespace Xci
open PySem L2
/-! ### things that compare: what is written in a tuple or a list of ints, texts, None -/
def pd : V → PyData
  | .int i => .int i
  | .str x => .str x
  | .bl b => .bool b
  | _ => .none
def okV : V → Bool
  | .int _ => true
  | .str x => PyData.strOk x
  | .bl _ => true
  | .non => true
  | _ => false
theorem dpV {K : PySem.W.Frag} {H : Hp} {x : V} (h : okV x = true) : Dp K H x (pd x) := by
  cases x with
  | int i => exact .int i
  | str z => exact .str z
  | bl b => exact .bl b
  | non => exact .non
  | byt _ => cases h
  | flt _ => cases h
  | ref _ => cases h
  | ty _ => cases h
theorem layV {x : V} (h : okV x = true) : PyData.canLay0 (pd x) = true ∧ PyData.depth (pd x) = 0 := by
  cases x with
  | int i => exact ⟨by simp [pd, PyData.canLay0], by simp [pd, PyData.depth]⟩
  | str z => exact ⟨by simpa [pd, PyData.canLay0, okV] using h, by simp [pd, PyData.depth]⟩
  | bl b => exact ⟨by simp [pd, PyData.canLay0], by simp [pd, PyData.depth]⟩
  | non => exact ⟨by simp [pd, PyData.canLay0], by simp [pd, PyData.depth]⟩
  | byt _ => cases h
  | flt _ => cases h
  | ref _ => cases h
  | ty _ => cases h
theorem dpVs {K : PySem.W.Frag} {H : Hp} : ∀ {xs : List V}, (∀ x ∈ xs, okV x = true) → DpAll K H xs (xs.map pd)
  | [], _ => .nil
  | x :: r, h => .cons (dpV (h x List.mem_cons_self)) (dpVs fun y hy => h y (List.mem_cons_of_mem _ hy))
theorem layVs : ∀ {xs : List V}, (∀ x ∈ xs, okV x = true) → PyData.canLayAll0 (xs.map pd) = true ∧ PyData.depthAll (xs.map pd) = 0
  | [], _ => ⟨rfl, rfl⟩
  | x :: r, h => by
    obtain ⟨a, b⟩ := layV (h x List.mem_cons_self)
    obtain ⟨c, d⟩ := layVs (xs := r) fun y hy => h y (List.mem_cons_of_mem _ hy)
    rw [List.map_cons]
    simp [PyData.canLayAll0, PyData.depthAll, a, b, c, d]
theorem sh_tup {xs : List V} (h : ∀ x ∈ xs, okV x = true) : SeqAt.shaped (.tuple (xs.map pd)) = true := by
  obtain ⟨a, b⟩ := layVs h
  simp [SeqAt.shaped, PyData.canLay0, PyData.depth, a, b]
theorem sh_lst {xs : List V} (h : ∀ x ∈ xs, okV x = true) : SeqAt.shaped (.list (xs.map pd)) = true := by
  obtain ⟨a, b⟩ := layVs h
  simp [SeqAt.shaped, PyData.canLay0, PyData.depth, a, b]
theorem eqv_same {d : PyData} (h : SeqAt.shaped d = true) : PyData.eqv d d = true := SeqAt.eqv_refl d (SeqAt.canLay_of_shaped h)
/-- u != v of two tuples with the same things: no -/
theorem ne_tup {K : PySem.W.Frag} {H : Hp} {u v : V} {xs : List V} {Q : V → Hp → Prop} (tu : Tup H u xs) (tv : Tup H v xs) (ok : ∀ x ∈ xs, okV x = true) (q : Q (.bl false) H) : rNeD K u v H Q := by
  obtain ⟨a, rfl, ha⟩ := tu
  obtain ⟨b, rfl, hb⟩ := tv
  refine ⟨.tuple (xs.map pd), .tuple (xs.map pd), .tup (sqT ha) (dpVs ok), .tup (sqT hb) (dpVs ok), sh_tup ok, sh_tup ok, ?_⟩
  rw [eqv_same (sh_tup ok)]
  exact q
theorem ne_lst {K : PySem.W.Frag} {H : Hp} {a b : Addr} {xs : List V} {Q : V → Hp → Prop} (ha : H a = some (.lst xs)) (hb : H b = some (.lst xs)) (ok : ∀ x ∈ xs, okV x = true) (q : Q (.bl false) H) : rNeD K (.ref a) (.ref b) H Q := by
  refine ⟨.list (xs.map pd), .list (xs.map pd), .lst (SqL.of ha) (dpVs ok), .lst (SqL.of hb) (dpVs ok), sh_lst ok, sh_lst ok, ?_⟩
  rw [eqv_same (sh_lst ok)]
  exact q
theorem ok_intsV (ns : List Int) : ∀ x ∈ ns.map V.int, okV x = true := fun x hx => by
  obtain ⟨n, _, rfl⟩ := List.mem_map.mp hx
  rfl
theorem WordOk.strOk {z : Str} (h : WordOk z) : PyData.strOk z = true := by
  unfold PyData.strOk
  rw [← Array.all_toList, List.all_eq_true]
  intro c hc
  have := h.az c hc
  exact decide_eq_true (by omega)
theorem ok_strsV {zs : List Str} (h : ∀ z ∈ zs, WordOk z) : ∀ x ∈ zs.map V.str, okV x = true := fun x hx => by
  obtain ⟨z, hz, rfl⟩ := List.mem_map.mp hx
  exact (h z hz).strOk
theorem ok_formsV {fs : List (Option Str)} (h : ∀ z, some z ∈ fs → WordOk z) : ∀ x ∈ fs.map formV, okV x = true := fun x hx => by
  obtain ⟨f, hf, rfl⟩ := List.mem_map.mp hx
  cases f with
  | none => rfl
  | some z => exact (h z hf).strOk
theorem cutTo (xs : List V) (k : Nat) : cutV xs none (some (k : Int)) = xs.take k := by
  unfold cutV
  have e0 : HT.sIx xs.length 0 none = 0 := rfl
  rw [e0, HT.sIx_nat, List.drop_zero, Nat.sub_zero, ← List.take_take, List.take_length]
theorem forms_inV (z : Str) (fs : List (Option Str)) : inV (.str z) (fs.map formV) = decide (some z ∈ fs) := by
  unfold inV
  rw [List.any_map]
  induction fs with
  | nil => rfl
  | cons a r ih =>
    rw [List.any_cons, ih]
    cases a with
    | none =>
      show (false || decide (some z ∈ r)) = decide (some z ∈ none :: r)
      simp
    | some y =>
      show ((y == z) || decide (some z ∈ r)) = decide (some z ∈ some y :: r)
      by_cases e : y = z
      · subst e; simp
      · have e' : ¬ z = y := fun q => e q.symm
        simp [e, e']
/-- the numbers of the open cells -/
def openN (fs : List (Option Str)) (i : Nat) : List Nat := (List.range i).filter fun j => decide (fs[j]? = some none)
theorem open_next {fs : List (Option Str)} {i : Nat} {f : Option Str} (e : fs[i]? = some f) : openN fs (i + 1) = openN fs i ++ (if f = none then [i] else []) := by
  unfold openN
  rw [List.range_succ, List.filter_append, List.filter_cons, List.filter_nil, e]
  by_cases q : f = none
  · rw [if_pos q, if_pos (decide_eq_true (congrArg some q))]
  · rw [if_neg q, if_neg (fun h => q (Option.some.inj (of_decide_eq_true h)))]
theorem open_len (fs : List (Option Str)) (i : Nat) : (openN fs i).length ≤ i := by
  have h := List.length_filter_le (fun j => decide (fs[j]? = some none)) (List.range i)
  rw [List.length_range] at h
  exact h
/-- the cells that are open or have one of these forms, each once -/
structure SeenOk (fs : List (Option Str)) (done : List Str) (js : List Nat) : Prop where
  nd : js.Nodup
  all : ∀ j, j ∈ js ↔ fs[j]? = some none ∨ ∃ z ∈ done, fs[j]? = some (some z)
theorem SeenOk.start (fs : List (Option Str)) : SeenOk fs [] (openN fs fs.length) := by
  refine ⟨List.Sublist.nodup List.filter_sublist List.nodup_range, fun j => ?_⟩
  unfold openN
  rw [List.mem_filter, List.mem_range, decide_eq_true_eq]
  constructor
  · exact fun h => .inl h.2
  · rintro (h | ⟨z, hz, _⟩)
    · exact ⟨(List.getElem?_eq_some_iff.mp h).1, h⟩
    · cases hz
theorem spots_nd (fs : List (Option Str)) (z : Str) : (spots fs z).Nodup := List.Sublist.nodup List.filter_sublist List.nodup_range
theorem SeenOk.next {fs : List (Option Str)} {done : List Str} {js : List Nat} {z : Str} (h : SeenOk fs done js) (new : z ∉ done) : SeenOk fs (done ++ [z]) (js ++ spots fs z) := by
  refine ⟨List.nodup_append.mpr ⟨h.nd, spots_nd fs z, fun a ha b hb e => ?_⟩, fun j => ?_⟩
  · subst e
    have q := spots_at.mp hb
    rcases (h.all a).mp ha with r | ⟨y, hy, r⟩
    · rw [q] at r; cases r
    · rw [q] at r
      have : z = y := Option.some.inj (Option.some.inj r)
      subst this
      exact new hy
  · rw [List.mem_append, h.all j, spots_at]
    constructor
    · rintro ((r | ⟨y, hy, r⟩) | r)
      · exact .inl r
      · exact .inr ⟨y, List.mem_append_left _ hy, r⟩
      · exact .inr ⟨z, List.mem_append_right _ (List.mem_singleton.mpr rfl), r⟩
    · rintro (r | ⟨y, hy, r⟩)
      · exact .inl (.inl r)
      · rcases List.mem_append.mp hy with hy | hy
        · exact .inl (.inr ⟨y, hy, r⟩)
        · rw [List.mem_singleton.mp hy] at r
          exact .inr r
theorem SeenOk.whole {fs : List (Option Str)} {zs : List Str} {js : List Nat} (h : SeenOk fs zs js) (r : ∀ z, z ∈ zs ↔ some z ∈ fs) : js.Perm (List.range fs.length) := by
  refine (List.perm_ext_iff_of_nodup h.nd List.nodup_range).mpr fun j => ?_
  rw [h.all j, List.mem_range]
  constructor
  · rintro (q | ⟨z, _, q⟩)
    · exact (List.getElem?_eq_some_iff.mp q).1
    · exact (List.getElem?_eq_some_iff.mp q).1
  · intro lt
    have q : fs[j]? = some fs[j] := List.getElem?_eq_getElem lt
    cases e : fs[j] with
    | none => rw [e] at q; exact .inl q
    | some z =>
      rw [e] at q
      exact .inr ⟨z, (r z).mpr (List.mem_of_getElem? q), q⟩
/-- sorted numbers that are a perm of 0 .. n are these -/
theorem sorted_rng {ns : List Int} {js : List Nat} {n : Nat} (p : ns.Perm (nat2 js)) (q : js.Perm (List.range n)) (up : ns.Pairwise (· ≤ ·)) : ns = rng (n : Int) := by
  have e : rng (n : Int) = nat2 (List.range n) := by unfold rng nat2; rw [Int.toNat_natCast]
  have pp : ns.Perm (rng (n : Int)) := by
    rw [e]
    exact p.trans (q.map _)
  refine List.Perm.eq_of_pairwise (le := (· ≤ ·)) (fun a b _ _ h k => by omega) up ((rng_ok (n : Int)).up.imp fun h => by omega) pp
/-- told forms that came for the first time, as they come -/
theorem first_next {fs : List (Option Str)} {i : Nat} {seen : List Str} {z : Str} (h : ∀ y, y ∈ seen ↔ some y ∈ fs.take i) (e : fs[i]? = some (some z)) : ∀ y, y ∈ (if some z ∈ fs.take i then seen else seen ++ [z]) ↔ some y ∈ fs.take (i + 1) := fun y => by
  rw [List.take_add_one, e, List.mem_append]
  split
  · rename_i old
    rw [h y]
    constructor
    · exact .inl
    · rintro (q | q)
      · exact q
      · have : y = z := Option.some.inj (List.mem_singleton.mp q)
        rw [this]; exact old
  · rw [List.mem_append, h y, List.mem_singleton]
    constructor
    · rintro (q | q)
      · exact .inl q
      · rw [q]; exact .inr (List.mem_singleton.mpr rfl)
    · rintro (q | q)
      · exact .inl q
      · exact .inr (Option.some.inj (List.mem_singleton.mp q))
end Xci

set_option maxHeartbeats 4000000
/-! ### sorted(a list of tuples of ints, of whatever lengths) -/
namespace TI
open PySem PyProof.Rows Srt SrtO
section
variable {prog : Program} {w : World} {A : Around} {E : Value → Shared → Prop} {s : Shared}
theorem lex_walk {b fin : Bool} {Q : Bool → Shared → Prop} : ∀ {xs ys : List Value} {ns ms : List Int} (i : Nat), IntsAre xs ns → IntsAre ys ms → fin = decide (ns.length < ms.length) → Q (HT.lexLt ns ms) s → PySem.W.KatLex prog w A b fin Q (xs.zip ys) i s
  | _, _, _, _, _, .nil, .nil, ef, q => by
    have e : fin = false := ef.trans (decide_eq_false (Nat.lt_irrefl _))
    rw [HT.lexLt_nil_nil, ← e] at q
    exact PySem.W.kat_nil q
  | _, _, _, _, _, .nil, .cons c u _, ef, q => by
    have e : fin = true := ef.trans (decide_eq_true (Nat.zero_lt_succ _))
    rw [HT.lexLt_nil_cons, ← e] at q
    exact PySem.W.kat_nil q
  | _, _, _, _, _, .cons c u _, .nil, ef, q => by
    have e : fin = false := ef.trans (decide_eq_false (Nat.not_lt_zero _))
    rw [HT.lexLt_cons_nil, ← e] at q
    exact PySem.W.kat_nil q
  | _, _, _, _, i, .cons c u hx, .cons d v hy, ef, q => by
    rw [HT.lexLt_cons] at q
    refine PySem.W.kat_cons (SeqAt.EqAt.int_int c u d v prog w _ _ ?_)
    refine PySem.W.kat_go (fun same => PySem.W.kat_yes ?_) (fun other => PySem.W.kat_no (TS.oneLt_ints _ ?_))
    · have e : c = d := by simpa using same
      rw [if_pos e] at q
      exact lex_walk (i + 1) hx hy (ef.trans (by rw [List.length_cons, List.length_cons]; exact decide_eq_decide.mpr Nat.succ_lt_succ_iff)) q
    · have e : ¬ c = d := by simpa using other
      rw [if_neg e] at q
      exact q
theorem size_ints {xs : Array Value} {ns : List Int} (i : IntsAre xs.toList ns) : xs.size = ns.length := by
  rw [← i.length, Array.length_toList]
/-- two tuples of ints, by what the sort knows of the keys -/
theorem lt_tuples {x : Bool} {v u : Value} {ns ms : List Int} {Q : Bool → Shared → Prop} (hv : TS.TupInts s.heap v ns) (hu : TS.TupInts s.heap u ms) (q : Q (HT.lexLt ns ms) s) : wpAny (model prog w) A (keyLt' (tuples' x) v u) Q E s := by
  obtain ⟨a, xs, rfl, ⟨o, go, _, n, dat⟩, i⟩ := hv
  obtain ⟨b, ys, rfl, ⟨o', go', _, n', dat'⟩, i'⟩ := hu
  refine PySem.W.kat_lt go dat go' dat' (lex_walk 0 i i' ?_ q)
  rw [size_ints i, size_ints i']
theorem lt_oneType {v u : Value} {ns ms : List Int} {Q : Bool → Shared → Prop} (room : A.units < cLine) (hv : TS.TupInts s.heap v ns) (hu : TS.TupInts s.heap u ms) (q : Q (HT.lexLt ns ms) s) : wpAny (model prog w) A (keyLt' oneType' v u) Q E s := by
  obtain ⟨a, xs, rfl, ⟨⟨cls, dd, data, sl⟩, go, ec, n, ed⟩, i⟩ := hv
  obtain ⟨b, ys, rfl, ⟨⟨cls', dd', data', sl'⟩, go', ec', n', ed'⟩, i'⟩ := hu
  simp only at ec ed ec' ed'
  subst ec ed ec' ed'
  rw [keyLt'_oneType, oneLt'_eq]
  simp only [if_true]
  refine wpAny_bind (wpAny_cRoomFor room ?_)
  refine wpAny_bind (wpAny_callSpecialIfBound?_slot (T := "tuple") ⟨_, go, rfl⟩ PySem.F.slot_tuple_lt ?_)
  refine call_meets PySem.F.slot_tuple_lt ⟨_, go, rfl⟩ PySem.F.entry_tuple_lt (PySem.F.args_tuple_lt_2 _ _) (HT.tuple_lt_ints a b xs ys n n' dd dd' sl sl' ns ms i i') ⟨go, go', ?_⟩
  exact wpAny_truthy_bool q
theorem lt_general {v u : Value} {ns ms : List Int} {Q : Bool → Shared → Prop} (room : A.units < cLine) (hv : TS.TupInts s.heap v ns) (hu : TS.TupInts s.heap u ms) (q : Q (HT.lexLt ns ms) s) : wpAny (model prog w) A (keyLt' general' v u) Q E s := by
  obtain ⟨a, xs, rfl, t, i⟩ := hv
  obtain ⟨b, ys, rfl, t', i'⟩ := hu
  exact PySem.W.kat_one _ _ (HT.lt_tupInts (Q := PySem.W.BoolBack Q) t t' i i' room q)
/-- what is looked at first: the tuples' own firsts -/
theorem firsts_any : ∀ {vs : List Value}, (∀ v ∈ vs, ∃ ns, TS.TupInts s.heap v ns) → ∃ rs : List (Option Value), rs.length = vs.length ∧ (∀ (i : Nat) (v : Value) (ns : List Int), vs[i]? = some v → TS.TupInts s.heap v ns → ns = [] → rs[i]? = some none) ∧
    ∀ (Q : List (Option Value) → Shared → Prop) (E : Value → Shared → Prop), Q rs s → wpAny (model prog w) A (vs.mapM firstOfTuple') Q E s
  | [], _ => ⟨[], rfl, fun i v ns h => (by simp at h), fun Q E q => by rw [List.mapM_nil]; exact wpAny_pure q⟩
  | v :: vs, h => by
    obtain ⟨rs, l, e, g⟩ := firsts_any (vs := vs) fun u m => h u (List.mem_cons_of_mem _ m)
    obtain ⟨ns, T⟩ := h v List.mem_cons_self
    obtain ⟨a, xs, rfl, ⟨o, go, ec, n, ed⟩, i⟩ := id T
    refine ⟨xs[0]? :: rs, by rw [List.length_cons, List.length_cons, l], fun k u ms hu hm em => ?_, fun Q E q => ?_⟩
    · cases k with
      | zero =>
        obtain rfl : Value.ref a = u := Option.some.inj hu
        have es : ns = ms := T.ints.symm.trans hm.ints
        subst es
        subst em
        have z := size_ints i
        show some xs[0]? = some none
        rw [Array.getElem?_eq_none (by rw [z]; exact Nat.le_refl _)]
      | succ k => exact e k u ms hu hm em
    · rw [List.mapM_cons]
      refine wpAny_bind ?_
      rw [PySem.W.kas_first_eq]
      refine wpAny_bind (PySem.W.Looks.here (show PySem.W.Looks (model prog w) s.heap (typeOf (.ref a)) o.cls from (PySem.W.Looks.ld go).andThen .now) ?_)
      rw [ec, if_neg (by first | decide | simp)]
      refine wpAny_bind (listItems_at go ed (wpAny_pure ?_))
      exact wpAny_bind (g (fun bs s' => wpAny (model prog w) A (pure (xs[0]? :: bs)) Q E s') E (wpAny_pure q))
theorem type_tuple {v : Value} {ns : List Int} {M : Model} (T : TS.TupInts s.heap v ns) : PySem.W.Looks M s.heap (typeOf v) (.type "tuple") := by
  obtain ⟨a, xs, rfl, ⟨o, go, ec, n, ed⟩, i⟩ := T
  rw [← ec]
  exact (PySem.W.Looks.ld go).andThen .now
/-- some tuple is empty: the kind is that of one type, or of any -/
theorem kind_some_empty {vs : List Value} (h2 : 2 ≤ vs.length) (h : ∀ v ∈ vs, ∃ ns, TS.TupInts s.heap v ns) {v0 : Value} (m0 : v0 ∈ vs) (t0 : TS.TupInts s.heap v0 []) : ∃ κ, (κ = oneType' ∨ κ = general') ∧
    ∀ (Q : SortKind → Shared → Prop) (E : Value → Shared → Prop), Q κ s → wpAny (model prog w) A (keyKind' vs.toArray) Q E s := by
  obtain ⟨rs, l, e, g⟩ := firsts_any (prog := prog) (w := w) (A := A) h
  obtain ⟨i, hi⟩ := List.getElem?_of_mem m0
  have none_ : ¬ (rs.toArray.all fun x => x.isSome) = true := fun all => by
    rw [List.all_toArray, List.all_eq_true] at all
    have z := all none (List.mem_of_getElem? (e i v0 [] hi t0 rfl))
    cases z
  by_cases hd : (rs.toArray[0]?.bind id).isSome = true
  · refine ⟨general', .inr rfl, fun Q E q => ?_⟩
    rw [keyKind'_eq, List.mapM_toArray, map_eq_pure_bind]
    refine wpAny_bind (wpAny_bind (g _ E (wpAny_pure ?_)))
    rw [if_neg none_, if_pos hd]
    exact wpAny_pure q
  · refine ⟨oneType', .inl rfl, fun Q E q => ?_⟩
    rw [keyKind'_eq, List.mapM_toArray, map_eq_pure_bind]
    refine wpAny_bind (wpAny_bind (g _ E (wpAny_pure ?_)))
    rw [if_neg none_, if_neg hd]
    rw [oneTypeOnly'_eq, List.mapM_toArray, map_eq_pure_bind]
    refine wpAny_bind (wpAny_bind (wpAny_bind (PySem.W.kas_mapM (r := Value.type "tuple") _ (fun v hv Q' hq => by
      obtain ⟨ns, T⟩ := h v hv
      exact (type_tuple T).here hq) (wpAny_pure ?_))))
    have all : ((List.map (fun _ => Value.type "tuple") vs).toArray.all fun x => x == Value.type "tuple") = true := by
      rw [List.all_toArray, List.all_map, List.all_eq_true]
      intro _ _
      exact beq_self_eq_true _
    have first : (List.map (fun _ => Value.type "tuple") vs).toArray[0]? = some (Value.type "tuple") := by
      cases vs with
      | nil => exact absurd h2 (by decide)
      | cons v vs => rfl
    rw [first]
    simp only [all, if_true]
    exact wpAny_pure (wpAny_pure q)
theorem firsts_full {h : Heap} : ∀ {vs : List Value}, (∀ v ∈ vs, ∃ n ns, TS.TupInts h v (n :: ns)) → ∃ fs : List Value, PySem.W.KatTups h vs fs ∧ fs.length = vs.length ∧ ∀ f ∈ fs, ∃ x t, f = Value.int x t
  | [], _ => ⟨[], .nil, rfl, nofun⟩
  | v :: vs, hv => by
    obtain ⟨fs, k, l, z⟩ := firsts_full (vs := vs) fun u m => hv u (List.mem_cons_of_mem _ m)
    obtain ⟨n, ns, a, xs, rfl, ⟨o, go, ec, c, ed⟩, i⟩ := hv v List.mem_cons_self
    generalize er : xs.toList = r at i
    cases i with
    | cons _ t i' =>
      rename_i us
      have at0 : xs[0]? = some (Value.int n t) := by rw [← Array.getElem?_toList, er] <;> rfl
      refine ⟨Value.int n t :: fs, .cons go ec ed at0 k, by rw [List.length_cons, List.length_cons, l], fun f hf => ?_⟩
      rcases List.mem_cons.mp hf with e | hf
      · exact ⟨n, t, e⟩
      · exact z f hf
theorem tuples_sortable {a : Addr} {vs : List Value} {k : Value → List Int} (room : A.units < cLine) (h2 : 2 ≤ vs.length) (hv : ∀ v ∈ vs, TS.TupInts s.heap v (k v)) (ha : ∀ o, s.heap.get? a = some o → o.cls ≠ .type "tuple") :
    SortableO prog w A s a vs fun v u => HT.lexLt (k v) (k u) := by
  intro h' keep
  have hv' : ∀ v ∈ vs, TS.TupInts h' v (k v) := fun v m => (hv v m).keeps fun b o e c => keep b o (fun z => by subst z; exact ha o e c) e
  by_cases full : ∀ v ∈ vs, k v ≠ []
  · obtain ⟨fs, t, l, z⟩ := firsts_full (h := h') (vs := vs) fun v m => by
      cases e : k v with
      | nil => exact absurd e (full v m)
      | cons n ns => exact ⟨n, ns, e ▸ hv' v m⟩
    refine ⟨tuples' true, fun Q E q => ?_, fun p r hp hr => lt_tuples (hv' _ hp) (hv' _ hr) ⟨rfl, rfl⟩⟩
    refine PySem.W.kat_kind (T := .type "int") t (by omega) (fun f hm => ?_) (by rfl) ?_
    · obtain ⟨x, u, rfl⟩ := z f hm
      exact PySem.W.Looks.now
    · rw [show (Value.type "int" != Value.type "tuple") = true from by first | decide +kernel | rfl | decide]
      exact q
  · obtain ⟨v0, m0, e0⟩ : ∃ v ∈ vs, k v = [] := by
      refine Classical.byContradiction fun no => full fun v m e => no ⟨v, m, e⟩
    obtain ⟨κ, hκ, kind⟩ := kind_some_empty (prog := prog) (w := w) (A := A) (s := { s with heap := h' }) h2 (fun v m => ⟨_, hv' v m⟩) m0 (e0 ▸ hv' v0 m0)
    refine ⟨κ, kind, fun p r hp hr => ?_⟩
    rcases hκ with rfl | rfl
    · exact lt_oneType room (hv' _ hp) (hv' _ hr) ⟨rfl, rfl⟩
    · exact lt_general room (hv' _ hp) (hv' _ hr) ⟨rfl, rfl⟩
end
end TI
namespace Xci
open PySem PySem.Spec PyProof.Rows L2
/-- sorted(xs), xs a list of tuples of ints (k says which), of whatever lengths -/
def rSortedTI (K : PySem.W.Frag) : List V → Hp → VK → Prop := fun vs H Q => ∃ (a : Addr) (xs : List V) (k : V → List Int), vs = [V.ref a] ∧ SqL K H a xs ∧ (∀ x ∈ xs, ∃ t, x = V.ref t ∧ H t = some (.tup ((k x).map V.int))) ∧
  ∀ ys p, ys.Pairwise (fun x y => HT.lexLt (k y) (k x) = false) → ys.Perm xs → H p = none → Q (.ref p) (upd H p (.lst ys))
theorem cr_sortedTI {X : Cx} (room : X.A.units + 64 < cLine) : CallR X (.builtin "sorted") (rSortedTI X.K) := by
  intro pins s σ H vs us Q I r h
  obtain ⟨a, xs, k, rfl, hs, hx, q⟩ := h
  obtain ⟨its, rv, hl, hz⟩ := I.list hs
  rw [Vals.ref1 r]
  obtain ⟨e1, e2⟩ := refs_back rv fun x m => by
    obtain ⟨t, e, _⟩ := hx x m
    exact ⟨t, e⟩
  have told : ∀ v ∈ its, TS.TupInts s.heap v (k (backV v)) := fun v hv => by
    obtain ⟨t, rfl⟩ := e2 v hv
    obtain ⟨t', e, ht⟩ := hx (V.ref t) (by rw [e1]; exact List.mem_map.mpr ⟨_, hv, rfl⟩)
    cases e
    obtain ⟨_, is, ri, at_⟩ := I.hok _ _ ht
    exact ⟨t, is.toArray, rfl, at_, Vals.ints ri⟩
  refine SrtO.sorted_ord (NtL.swo_lexL fun v => k (backV v)) hl.isList (by rw [← rv.length]; exact hz) (fun h2 h₁ a' at_ kk => ?_) fun out h1 h2 => ?_
  · refine TI.tuples_sortable (s := { s with heap := h₁ }) (by have e : X.A.in1.in1.units = X.A.units + 1 + 1 := rfl; omega) h2 (fun v hv => (told v hv).keeps fun b o e _ => (kk b o e).2) fun o e => ?_
    have e' : some o = some (seqObj "list" its.toArray 0) := e.symm.trans at_
    cases e'
    exact fun c => absurd (Value.type.inj c) (by decide)
  · have refs : ∀ u ∈ out, ∃ a, u = Value.ref a := fun u hu => e2 u (h2.perm.mem_iff.mp hu)
    obtain ⟨n, hn⟩ := sortedAll_at s.heap its out.toArray
    have perm : (out.map backV).Perm xs := by rw [e1]; exact h2.perm.map backV
    refine ⟨.ref _, upd H (s.heap.objs.size + 1) (.lst (out.map backV)), I.laid (t' := s.toks) (fun _ _ => sortedAll_old) (Nat.le_succ _) ⟨by rw [perm.length_eq]; exact hz, out, n, vals_back refs, hn⟩, rfl, q _ _ (List.pairwise_map.mpr h1) perm (I.hok.fresh (Nat.le_succ _))⟩
end Xci

namespace Xci
open PySem L2
/-! ### a book in another order; weights twice, even weights; sorted lists -/
theorem made_book {C x dx : Addr} {H : Hp} {man : Str} {p : Addr} {wt : V} {ys : List V} {es : List Ent} {ws : List Int} {Q : VK} {E : XK} (nx : H x = Option.none) (ndx : H dx = Option.none) (hm : Man man) (hw : WtIs H man wt ws) (hp : H p = some (.tup ys)) (ents : Ents H ys es)
    (ok : ∀ e ∈ es, EntOk e) (len : es.length ≤ 40) (G : ∀ H', BookSt C H' x man ws es → Same H H' → Q .non H') : spBook C [.ref x, .str man, .ref p, wt] (upd (upd H dx (.own x)) x (.ins C dx [])) Q E := by
  have s3 : Same H (upd (upd H dx (.own x)) x (.ins C dx [])) := fun b o e => by rw [upd_ne (ne_of_none e nx), upd_ne (ne_of_none e ndx)]; exact e
  refine ⟨x, dx, man, p, wt, ys, es, rfl, upd_same, hm, (hw.keep (TFr.same s3)).ok, s3 _ _ hp, Ents.keep (TFr.same s3) ents, ok, len, fun H' hb kp => ?_⟩
  have s4 : Same H H' := fun b o e => kp b o (s3 b o e) (ne_of_none e nx)
  exact G H' ⟨⟨p, wt, ys, hb, s4 _ _ hp, Ents.keep (TFr.same s4) ents, hw.keep (TFr.same s4)⟩, ok, len⟩ s4
/-- esT holds the entries of es in the order ord -/
structure Picked (es : List Ent) (ord : List Nat) (esT : List Ent) : Prop where
  len : esT.length = ord.length
  at_ : ∀ (i j : Nat), ord[i]? = some j → esT[i]? = es[j]?
def gOf (ord : List Nat) (i : Nat) : Nat := ord.getD i 0
theorem gOf_at {ord : List Nat} {i j : Nat} (h : ord[i]? = some j) : gOf ord i = j := by
  unfold gOf
  rw [List.getD_eq_getElem?_getD, h]
  rfl
theorem Picked.snoc {es : List Ent} {ord : List Nat} {esT : List Ent} {i j : Nat} {e : Ent} (P : Picked es (ord.take i) esT) (hi : i ≤ ord.length) (h : ord[i]? = some j) (he : es[j]? = some e) : Picked es (ord.take (i + 1)) (esT ++ [e]) := by
  have hlt := (List.getElem?_eq_some_iff.mp h).1
  have el : esT.length = i := by rw [P.len, List.length_take]; omega
  have et : ord.take (i + 1) = ord.take i ++ [j] := by rw [List.take_add_one, h]; rfl
  refine ⟨by rw [List.length_append, el, List.length_take, List.length_singleton]; omega, fun k m hk => ?_⟩
  rw [et] at hk
  have tl : (ord.take i).length = i := by rw [List.length_take]; omega
  by_cases hki : k < i
  · rw [List.getElem?_append_left (by omega)] at hk
    rw [List.getElem?_append_left (by omega)]
    exact P.at_ k m hk
  · have hkl := (List.getElem?_eq_some_iff.mp hk).1
    rw [List.length_append, tl, List.length_singleton] at hkl
    have : k = i := by omega
    subst this
    rw [List.getElem?_append_right (by omega), tl, Nat.sub_self] at hk
    obtain rfl : j = m := Option.some.inj hk
    rw [List.getElem?_append_right (by omega), el, Nat.sub_self, he]
    rfl
theorem Picked.mk_ {es : List Ent} {ord : List Nat} {esT : List Ent} (P : Picked es ord esT) {i : Nat} (hi : i < ord.length) : mkA esT i = mkA es (gOf ord i) := by
  have h : ord[i]? = some ord[i] := List.getElem?_eq_getElem hi
  unfold mkA
  rw [gOf_at h, P.at_ i _ h]
theorem Picked.fit {es : List Ent} {ord : List Nat} {esT : List Ent} (P : Picked es ord esT) {i : Nat} (ms : List Int) (hi : i < ord.length) : fitP esT ms i = fitP es ms (gOf ord i) := by
  have h : ord[i]? = some ord[i] := List.getElem?_eq_getElem hi
  unfold fitP
  rw [gOf_at h, P.at_ i _ h]
theorem gOf_map (ord : List Nat) : (List.range ord.length).map (gOf ord) = ord := by
  refine List.ext_getElem? fun i => ?_
  rw [List.getElem?_map]
  by_cases hi : i < ord.length
  · rw [List.getElem?_eq_getElem (by rw [List.length_range]; exact hi), List.getElem_range, List.getElem?_eq_getElem hi]
    show some (gOf ord i) = _
    rw [gOf_at (List.getElem?_eq_getElem hi)]
  · rw [List.getElem?_eq_none (by rw [List.length_range]; omega), List.getElem?_eq_none (by omega)]
    rfl
theorem Picked.perm {es : List Ent} {ord : List Nat} {esT : List Ent} (P : Picked es ord esT) (hp : ord.Perm (List.range es.length)) (ms : List Int) : ((fitN esT ms).map (gOf ord)).Perm (fitN es ms) := by
  have e1 : fitN esT ms = (List.range ord.length).filter (fun i => fitP es ms (gOf ord i)) := by
    unfold fitN
    rw [P.len]
    exact List.filter_congr fun i hi => P.fit ms (List.mem_range.mp hi)
  have e2 : ((List.range ord.length).filter (fun i => fitP es ms (gOf ord i))).map (gOf ord) = ((List.range ord.length).map (gOf ord)).filter (fitP es ms) := by
    rw [List.filter_map]
    rfl
  rw [e1, e2, gOf_map]
  exact hp.filter _
theorem Picked.turned {es : List Ent} {ord : List Nat} {esT : List Ent} (P : Picked es ord esT) (hp : ord.Perm (List.range es.length)) (man : Str) (ws ms : List Int) :
    Turned (gOf ord) (lawRes (fitN esT ms) (beatA man ws esT)) (lawRes (fitN es ms) (beatA man ws es)) := by
  refine lawRes_turned (beatA_ok _ _ _) (beatA_ok _ _ _) (fit_nd es ms) (P.perm hp ms) fun i hi o ho => ?_
  have h1 : i < ord.length := by rw [← P.len]; exact fit_lt i hi
  have h2 : o < ord.length := by rw [← P.len]; exact fit_lt o ho
  unfold beatA
  rw [P.mk_ h1, P.mk_ h2]
theorem Picked.ok {es : List Ent} {ord : List Nat} {esT : List Ent} (P : Picked es ord esT) (h : ∀ e ∈ es, EntOk e) : ∀ e ∈ esT, EntOk e := by
  intro e he
  obtain ⟨i, hi⟩ := List.getElem?_of_mem he
  have hl := (List.getElem?_eq_some_iff.mp hi).1
  rw [P.len] at hl
  have := P.at_ i _ (List.getElem?_eq_getElem hl)
  rw [hi] at this
  exact h e (List.mem_of_getElem? this.symm)
theorem lawRes_asc {js : List Nat} {beat : Nat → Nat → Bool} (h : js.Pairwise (· < ·)) {l : List Nat} (e : lawRes js beat = .qua l) : l.Pairwise (· < ·) ∧ l.length ≤ js.length := by
  unfold lawRes at e
  split at e
  · cases e
  · split at e
    · cases e
    · obtain rfl := Res.qua.inj e
      exact ⟨h.sublist List.filter_sublist, List.length_filter_le _ _⟩
theorem fit_asc (es : List Ent) (ms : List Int) : (fitN es ms).Pairwise (· < ·) := List.pairwise_lt_range.sublist List.filter_sublist
/-- two ascending lists of the same items are one -/
theorem sorted_one : ∀ {xs ys : List Int}, xs.Perm ys → xs.Pairwise (· ≤ ·) → ys.Pairwise (· ≤ ·) → xs = ys
  | [], ys, p, _, _ => (List.nil_perm.mp p).symm
  | x :: r, [], p, _, _ => by have := p.length_eq; simp at this
  | x :: r, y :: t, p, hx, hy => by
    obtain ⟨a1, a2⟩ := List.pairwise_cons.mp hx
    obtain ⟨b1, b2⟩ := List.pairwise_cons.mp hy
    have e : x = y := by
      have m1 : x ∈ y :: t := p.subset (by simp)
      have m2 : y ∈ x :: r := p.symm.subset (by simp)
      rcases List.mem_cons.mp m1 with q1 | q1
      · exact q1
      · rcases List.mem_cons.mp m2 with q2 | q2
        · exact q2.symm
        · have := b1 x q1
          have := a1 y q2
          omega
    subst e
    rw [sorted_one (List.perm_cons x |>.mp p) a2 b2]
theorem nat2_asc {l : List Nat} (h : l.Pairwise (· < ·)) : (nat2 l).Pairwise (· ≤ ·) := by
  unfold nat2
  rw [List.pairwise_map]
  exact h.imp fun q => by omega
theorem nat2_perm {l k : List Nat} (h : l.Perm k) : (nat2 l).Perm (nat2 k) := h.map _
theorem dp_list {K : PySem.W.Frag} {H : Hp} {p : Addr} {ns : List Int} (h : H p = some (.lst (ns.map V.int))) : Dp K H (.ref p) (.list (ns.map PyData.int)) := by
  have q := dp_all (K := K) (H := H) (flat0_ints ns)
  rw [toD_ints] at q
  exact .lst (SqL.of h) q
/-! weights -/
theorem getD_twice {ws : List Int} {i : Nat} : (ws.map (2 * ·)).getD i 0 = 2 * ws.getD i 0 := by
  rw [List.getD_eq_getElem?_getD, List.getD_eq_getElem?_getD, List.getElem?_map]
  cases ws[i]? <;> simp
theorem sum_twice (ws ms : List Int) : (ms.map fun m => (ws.map (2 * ·)).getD m.toNat 0).sum = 2 * (ms.map fun m => ws.getD m.toNat 0).sum := by
  induction ms with
  | nil => rfl
  | cons m r ih =>
    rw [List.map_cons, List.map_cons, List.sum_cons, List.sum_cons, ih, getD_twice]
    omega
theorem beat_twice (ws ms ns : List Int) : beatM "weights" (ws.map (2 * ·)) ms ns = beatM "weights" ws ms ns := by
  unfold beatM rk
  rw [if_neg n_wi, if_pos rfl, if_pos rfl, if_neg n_wi, if_pos rfl, if_pos rfl, sum_twice, sum_twice, Bool.eq_iff_iff, decide_eq_true_iff, decide_eq_true_iff]
  omega
theorem getD_even {c : Int} {i : Nat} (h : i < 6) : (List.replicate 6 c).getD i 0 = c := by
  rw [List.getD_eq_getElem?_getD, List.getElem?_replicate, if_pos h]
  rfl
theorem sum_even {c : Int} {ms : List Int} (h : MarksOk 6 ms) : (ms.map fun m => (List.replicate 6 c).getD m.toNat 0).sum = c * ms.length := by
  have : ∀ ms : List Int, (∀ m ∈ ms, 0 ≤ m ∧ m < 6) → (ms.map fun m => (List.replicate 6 c).getD m.toNat 0).sum = c * ms.length := by
    intro ms
    induction ms with
    | nil => intro _; simp
    | cons m r ih =>
      intro hb
      have b := hb m (by simp)
      rw [List.map_cons, List.sum_cons, ih fun k hk => hb k (List.mem_cons_of_mem _ hk), getD_even (by omega), List.length_cons]
      have : c * ((r.length + 1 : Nat) : Int) = c * (r.length : Int) + c := by
        rw [Int.natCast_add, Int.mul_add]
        simp
      rw [this]
      omega
  exact this ms fun m hm => ⟨h.lo m hm, h.hi m hm⟩
theorem beat_even {c : Int} {ms ns ws : List Int} (hc : 1 ≤ c) (hm : MarksOk 6 ms) (hn : MarksOk 6 ns) : beatM "weights" (List.replicate 6 c) ms ns = beatM "most" ws ms ns := by
  unfold beatM rk
  rw [if_neg n_wi, if_pos rfl, if_pos rfl, if_neg n_mosti, if_neg n_mostw, if_neg n_mostw, sum_even hm, sum_even hn, Bool.eq_iff_iff, decide_eq_true_iff, decide_eq_true_iff]
  constructor
  · intro h
    exact Int.lt_of_mul_lt_mul_left h (by omega)
  · intro h
    exact Int.mul_lt_mul_of_pos_left h (by omega)
theorem mkA_ok {es : List Ent} (h : ∀ e ∈ es, EntOk e) (j : Nat) : MarksOk 6 (mkA es j) := by
  unfold mkA
  cases e : es[j]? with
  | none => exact ⟨.nil, by simp, by simp⟩
  | some x => exact (h x (List.mem_of_getElem? e)).ms
/-! max of a tuple of ints -/
end Xci
namespace Xci
open PySem PySem.Spec PyProof.Rows L2
theorem max_tup {prog : Program} {w : World} {A : Around} {E : Value → Shared → Prop} {s : Shared} {l : Addr} {its : List Value} {ns : List Int} {Q : Value → Shared → Prop} (hh : A.handled = none) (ht : s.heap.IsTuple l its.toArray) (hi : IntsAre its ns) (hne : 0 < ns.length)
    (h : ∀ h' tk M t', (∀ b o, s.heap.get? b = some o → h'.get? b = some o) → M ∈ ns → (∀ a, a ∈ ns → a ≤ M) → Q (.int M t') { s with heap := h', toks := tk }) : wpAny (model prog w) A (call (.builtin "max") [.ref l]) Q E s := by
  obtain ⟨xs, e⟩ := hi.allInts.items
  have hn : numsOf (intItems xs).toList = ns := e ▸ hi.numsOf
  rw [nums_intItems] at hn
  subst hn
  rw [e] at ht
  have pos : 0 < xs.size := by simpa using hne
  have below : l < s.heap.objs.size := by obtain ⟨_, q, _⟩ := id ht; exact Heap.lt_size q
  refine PySem.call_max_walk (wpAny_pyIter_tuple ht ?_)
  refine ⟨_, _, _, _, _, _, _, rfl, Walks.tuple (A := A.in1) hh s.heap.objs.size l (Nat.ne_of_lt below) (intItems xs), ⟨⟨_, Heap.get?_push_size _ rfl, rfl, rfl⟩, ht.at fun o q => Heap.get?_push_of_some _ q⟩, fun b hb => ?_, by simpa [intItems] using pos,
    CmpOf.ints_gt (numAt xs) (fun _ _ => intItems_at), fun v h' tk hv hk => ?_⟩
  · show b < (s.heap.push _).objs.size
    rw [Heap.size_push]
    have hb' : b = s.heap.objs.size ∨ b = l := by simpa using hb
    rcases hb' with q | q <;> rw [q]
    · exact Nat.lt_succ_self _
    · exact Nat.lt_succ_of_lt below
  have hv' : (intItems xs)[argBest (fun i j => decide (numAt xs i > numAt xs j)) (xs.size - 1)]? = some v := by simpa [intItems] using hv
  obtain ⟨t, rfl⟩ := intItems_at hv'
  obtain ⟨b1, b2⟩ := argBest_gt (numAt xs) (xs.size - 1)
  refine h h' tk _ t (fun b o q => ?_) ?_ fun a ha => ?_
  · refine hk b o (fun hm => ?_) (Heap.get?_push_of_some _ q)
    have hb' : b = s.heap.objs.size := by simpa using hm
    exact absurd (Heap.lt_size q) (by rw [hb']; exact Nat.lt_irrefl _)
  · rw [numAt_eq]
    exact PySem.getD_mem (by rw [List.length_map, Array.length_toList]; omega)
  · obtain ⟨j, hj, rfl⟩ := mem_getD ha
    rw [List.length_map, Array.length_toList] at hj
    rw [← numAt_eq]
    exact b2 j (by omega)
def rMaxT (K : PySem.W.Frag) : List V → Hp → VK → Prop := fun vs H Q => ∃ (a : Addr) (ns : List Int), vs = [V.ref a] ∧ SqT K H a (ns.map V.int) ∧ 0 < ns.length ∧ ∀ m, m ∈ ns → (∀ y, y ∈ ns → y ≤ m) → Q (.int m) H
theorem cr_maxT {X : Cx} (hc : X.calm = true) : CallR X (.builtin "max") (rMaxT X.K) := by
  intro pins s σ H vs us Q I r h
  obtain ⟨a, ns, rfl, hs, hne, q⟩ := h
  obtain ⟨its, rv, hl, _⟩ := I.tuple hs
  rw [Vals.ref1 r]
  exact max_tup (I.ok.hd hc) hl rv.ints hne fun h' tk m t' hk h1 h2 => ⟨.int m, H, I.kept hk, ⟨_, rfl⟩, q m h1 h2⟩
end Xci

namespace Xci
open PySem L2
/-! ### holding: quarrels are of two at least; a book with an entry of just these marks ahead -/
theorem inside_mem {ms ns : List Int} (h : inside ms ns = true) : ∀ m ∈ ms, m ∈ ns := fun m hm => of_decide_eq_true (List.all_eq_true.mp h m hm)
theorem inside_of {ms ns : List Int} (h : ∀ m ∈ ms, m ∈ ns) : inside ms ns = true := List.all_eq_true.mpr fun m hm => decide_eq_true (h m hm)
theorem within_eq (ws : List Int) (ms ns : List Int) : beatM "within" ws ms ns = (inside ns ms && decide (ns.length < ms.length)) := if_pos rfl
theorem within_trans {ws : List Int} {es : List Ent} {a b c : Nat} (h1 : beatA "within" ws es a b = true) (h2 : beatA "within" ws es b c = true) : beatA "within" ws es a c = true := by
  unfold beatA at h1 h2 ⊢
  rw [within_eq, Bool.and_eq_true, decide_eq_true_iff] at h1 h2 ⊢
  exact ⟨inside_of fun m hm => inside_mem h1.1 m (inside_mem h2.1 m hm), by omega⟩
theorem within_len {ws : List Int} {es : List Ent} {a b : Nat} (h : beatA "within" ws es a b = true) : (mkA es b).length < (mkA es a).length := by
  unfold beatA at h
  rw [within_eq, Bool.and_eq_true, decide_eq_true_iff] at h
  exact h.2
theorem some_max {ws : List Int} {es : List Ent} {js : List Nat} (hb : ∀ j ∈ js, (mkA es j).length ≤ 6) : ∀ (n j : Nat), j ∈ js → 6 - (mkA es j).length ≤ n → ∃ m ∈ js.filter (maxB js (beatA "within" ws es)), m = j ∨ beatA "within" ws es m j = true := by
  intro n
  induction n with
  | zero =>
    intro j hj hn
    refine ⟨j, List.mem_filter.mpr ⟨hj, ?_⟩, .inl rfl⟩
    unfold maxB
    rw [Bool.not_eq_true', List.any_eq_false]
    intro o ho q
    have := within_len q
    have := hb o ho
    omega
  | succ n ih =>
    intro j hj hn
    by_cases q : maxB js (beatA "within" ws es) j = true
    · exact ⟨j, List.mem_filter.mpr ⟨hj, q⟩, .inl rfl⟩
    · unfold maxB at q
      rw [Bool.not_eq_true', List.any_eq_false] at q
      have : ∃ o ∈ js, beatA "within" ws es o j = true := by
        by_cases e : ∃ o ∈ js, beatA "within" ws es o j = true
        · exact e
        · exact absurd (fun o ho z => e ⟨o, ho, z⟩) q
      obtain ⟨o, ho, z⟩ := this
      have hl := within_len z
      obtain ⟨m, hm, hmo⟩ := ih o ho (by omega)
      refine ⟨m, hm, .inr ?_⟩
      rcases hmo with e | e
      · rw [e]; exact z
      · exact within_trans e z
theorem qua_two {ws : List Int} {es : List Ent} {js : List Nat} (hn : js.Nodup) (hb : ∀ j ∈ js, (mkA es j).length ≤ 6) {l : List Nat} (e : lawRes js (beatA "within" ws es) = .qua l) : 2 ≤ l.length := by
  rcases lawRes_cases (beatA_ok "within" ws es) hn with ⟨_, r⟩ | ⟨n, _, r⟩ | ⟨hne, hw, r⟩
  · rw [r] at e; cases e
  · rw [r] at e; cases e
  · rw [r] at e
    obtain rfl := Res.qua.inj e
    obtain ⟨j, hj⟩ : ∃ j, j ∈ js := by
      cases js with
      | nil => exact absurd rfl hne
      | cons j r => exact ⟨j, by simp⟩
    have sm := fun o ho => some_max (ws := ws) hb 6 o ho (by omega)
    match hl : js.filter (maxB js (beatA "within" ws es)) with
    | [] =>
      obtain ⟨m, hm, _⟩ := sm j hj
      rw [hl] at hm
      cases hm
    | [m] =>
      refine absurd ⟨?_, fun o ho hne => ?_⟩ (hw m)
      · have : m ∈ js.filter (maxB js (beatA "within" ws es)) := by rw [hl]; simp
        exact (List.mem_filter.mp this).1
      · obtain ⟨k, hk, z⟩ := sm o ho
        rw [hl] at hk
        have : k = m := List.mem_singleton.mp hk
        subst this
        rcases z with z | z
        · exact absurd z.symm hne
        · exact z
    | x :: y :: r => simp
theorem asc_sub_len : ∀ {b a : List Int}, b.Pairwise (· < ·) → a.Pairwise (· < ·) → (∀ x ∈ a, x ∈ b) → a.length ≤ b.length
  | [], [], _, _, _ => Nat.le_refl _
  | [], x :: r, _, _, h => absurd (h x (by simp)) (by simp)
  | y :: t, [], _, _, _ => Nat.zero_le _
  | y :: t, x :: r, hb, ha, h => by
    obtain ⟨b1, b2⟩ := List.pairwise_cons.mp hb
    obtain ⟨a1, a2⟩ := List.pairwise_cons.mp ha
    by_cases e : x = y
    · subst e
      have := asc_sub_len (b := t) (a := r) b2 a2 fun k hk => by
        rcases List.mem_cons.mp (h k (List.mem_cons_of_mem _ hk)) with q | q
        · have := a1 k hk; omega
        · exact q
      simp only [List.length_cons]
      omega
    · have hx : x ∈ t := by
        rcases List.mem_cons.mp (h x (by simp)) with q | q
        · exact absurd q e
        · exact q
      have := b1 x hx
      have := asc_sub_len (b := t) (a := x :: r) b2 ha fun k hk => by
        rcases List.mem_cons.mp (h k hk) with q | q
        · rcases List.mem_cons.mp hk with q2 | q2
          · omega
          · have := a1 k q2; omega
        · exact q
      simp only [List.length_cons] at this ⊢
      omega
theorem asc_sub_eq : ∀ {b a : List Int}, b.Pairwise (· < ·) → a.Pairwise (· < ·) → (∀ x ∈ a, x ∈ b) → a.length = b.length → a = b
  | [], [], _, _, _, _ => rfl
  | [], x :: r, _, _, h, _ => absurd (h x (by simp)) (by simp)
  | y :: t, [], _, _, _, e => by simp at e
  | y :: t, x :: r, hb, ha, h, el => by
    obtain ⟨b1, b2⟩ := List.pairwise_cons.mp hb
    obtain ⟨a1, a2⟩ := List.pairwise_cons.mp ha
    by_cases e : x = y
    · subst e
      rw [asc_sub_eq (b := t) (a := r) b2 a2 (fun k hk => by
        rcases List.mem_cons.mp (h k (List.mem_cons_of_mem _ hk)) with q | q
        · have := a1 k hk; omega
        · exact q) (by simpa using el)]
    · have hx : x ∈ t := by
        rcases List.mem_cons.mp (h x (by simp)) with q | q
        · exact absurd q e
        · exact q
      have := b1 x hx
      have := asc_sub_len (b := t) (a := x :: r) b2 ha fun k hk => by
        rcases List.mem_cons.mp (h k hk) with q | q
        · rcases List.mem_cons.mp hk with q2 | q2
          · omega
          · have := a1 k q2; omega
        · exact q
      simp only [List.length_cons] at this el
      omega
theorem inside_len {ms ns : List Int} (h : inside ms ns = true) (hm : MarksOk 6 ms) (hn : MarksOk 6 ns) : ms.length ≤ ns.length := asc_sub_len hn.up hm.up (inside_mem h)
theorem inside_eq {ms ns : List Int} (h : inside ms ns = true) (hm : MarksOk 6 ms) (hn : MarksOk 6 ns) (e : ms.length = ns.length) : ms = ns := asc_sub_eq hn.up hm.up (inside_mem h) e
theorem inside_refl (ms : List Int) : inside ms ms = true := inside_of fun _ h => h
/-- the entries with just these marks -/
def sameN (es : List Ent) (ms : List Int) : List Nat := (List.range es.length).filter fun n => decide (mkA es n = ms)
theorem mkA_cons (e : Ent) (es : List Ent) (n : Nat) : mkA (e :: es) (n + 1) = mkA es n := rfl
theorem mkA_zero (e : Ent) (es : List Ent) : mkA (e :: es) 0 = e.1 := rfl
theorem fit_mk {es : List Ent} {ms : List Int} {n : Nat} (h : n ∈ fitN es ms) : inside (mkA es n) ms = true := by
  obtain ⟨a, b⟩ := List.mem_filter.mp h
  have hn := List.mem_range.mp a
  unfold fitP at b
  unfold mkA
  rw [List.getElem?_eq_getElem hn] at b ⊢
  exact b
theorem whole_res {es : List Ent} {ms : List Int} {z : Str} (eok : ∀ e ∈ es, EntOk e) (mok : MarksOk 6 ms) :
    lawRes (fitN ((ms, z) :: es) ms) (beatA "within" [] ((ms, z) :: es)) = if sameN es ms = [] then .ent 0 else .qua (0 :: (sameN es ms).map (· + 1)) := by
  have ef : fitN ((ms, z) :: es) ms = 0 :: (fitN es ms).map (· + 1) := by
    rw [fit_cons, if_pos (inside_refl ms)]
    rfl
  have nd := fit_nd ((ms, z) :: es) ms
  have b0 : ∀ n ∈ fitN es ms, beatA "within" [] ((ms, z) :: es) 0 (n + 1) = !decide (mkA es n = ms) := fun n hn => by
    unfold beatA
    rw [within_eq, mkA_cons, mkA_zero, fit_mk hn, Bool.true_and]
    have l := inside_len (fit_mk hn) (mkA_ok eok n) mok
    by_cases e : mkA es n = ms
    · rw [e]
      simp
    · have : ¬ (mkA es n).length = ms.length := fun q => e (inside_eq (fit_mk hn) (mkA_ok eok n) mok q)
      have : (mkA es n).length < ms.length := by omega
      simp [e, this]
  have bn : ∀ n ∈ fitN es ms, ∀ k, (mkA ((ms, z) :: es) k).length = ms.length → beatA "within" [] ((ms, z) :: es) (n + 1) k = false := fun n hn k hk => by
    unfold beatA
    rw [within_eq, mkA_cons]
    have l := inside_len (fit_mk hn) (mkA_ok eok n) mok
    have : decide ((mkA ((ms, z) :: es) k).length < (mkA es n).length) = false := decide_eq_false (by omega)
    rw [this, Bool.and_false]
  have esame : sameN es ms = (fitN es ms).filter fun n => decide (mkA es n = ms) := by
    unfold sameN fitN
    rw [List.filter_filter]
    refine List.filter_congr fun n hn => ?_
    by_cases e : mkA es n = ms
    · have hl := List.mem_range.mp hn
      have : fitP es ms n = true := by
        unfold fitP
        unfold mkA at e
        rw [List.getElem?_eq_getElem hl] at e ⊢
        have e : es[n].1 = ms := e
        show inside es[n].1 ms = true
        rw [e]
        exact inside_refl ms
      simp [e, this]
    · simp [e]
  by_cases hs : sameN es ms = []
  · rw [if_pos hs]
    refine lawRes_ent (beatA_ok _ _ _) nd ⟨by rw [ef]; simp, fun o ho hne => ?_⟩
    rw [ef] at ho
    rcases List.mem_cons.mp ho with q | q
    · exact absurd q hne
    · obtain ⟨n, hn, rfl⟩ := List.mem_map.mp q
      rw [b0 n hn]
      have : ¬ mkA es n = ms := fun e => by
        have : n ∈ sameN es ms := by
          rw [esame]
          exact List.mem_filter.mpr ⟨hn, decide_eq_true e⟩
        rw [hs] at this
        cases this
      simp [this]
  · rw [if_neg hs]
    have self : ∀ k, (mkA ((ms, z) :: es) k).length = ms.length → beatA "within" [] ((ms, z) :: es) 0 k = false := fun k hk => by
      unfold beatA
      rw [within_eq, mkA_zero]
      have : decide ((mkA ((ms, z) :: es) k).length < ms.length) = false := decide_eq_false (by omega)
      rw [this, Bool.and_false]
    obtain ⟨s, hs1⟩ : ∃ s, s ∈ sameN es ms := by
      cases h : sameN es ms with
      | nil => exact absurd h hs
      | cons a b => exact ⟨a, by simp⟩
    have hs2 := hs1
    rw [esame] at hs2
    obtain ⟨s1, s2⟩ := List.mem_filter.mp hs2
    have s2 := of_decide_eq_true s2
    rw [lawRes_qua (beatA_ok _ _ _) nd (by rw [ef]; simp) fun n hw => ?_]
    · congr 1
      rw [ef, List.filter_cons]
      have m0 : maxB (0 :: (fitN es ms).map (· + 1)) (beatA "within" [] ((ms, z) :: es)) 0 = true := by
        unfold maxB
        rw [Bool.not_eq_true', List.any_eq_false]
        intro o ho
        rcases List.mem_cons.mp ho with q | q
        · subst q
          rw [self 0 rfl]
          exact Bool.false_ne_true
        · obtain ⟨n, hn, rfl⟩ := List.mem_map.mp q
          rw [bn n hn 0 rfl]
          exact Bool.false_ne_true
      rw [if_pos m0]
      congr 1
      rw [List.filter_map, esame]
      congr 1
      refine List.filter_congr fun n hn => ?_
      show maxB _ _ (n + 1) = _
      unfold maxB
      by_cases e : mkA es n = ms
      · rw [decide_eq_true e, Bool.not_eq_true', List.any_eq_false]
        intro o ho
        have hk : (mkA ((ms, z) :: es) (n + 1)).length = ms.length := by rw [mkA_cons, e]
        rcases List.mem_cons.mp ho with q | q
        · subst q
          rw [self _ hk]
          exact Bool.false_ne_true
        · obtain ⟨k, hk2, rfl⟩ := List.mem_map.mp q
          rw [bn k hk2 _ hk]
          exact Bool.false_ne_true
      · rw [decide_eq_false e, Bool.not_eq_false', List.any_eq_true]
        exact ⟨0, by simp, by rw [b0 n hn]; simp [e]⟩
    · have hn0 := hw.1
      rw [ef] at hn0
      rcases List.mem_cons.mp hn0 with q | q
      · subst q
        have := hw.2 (s + 1) (by rw [ef]; exact List.mem_cons_of_mem _ (List.mem_map_of_mem s1)) (by omega)
        rw [self _ (by rw [mkA_cons, s2])] at this
        cases this
      · obtain ⟨k, hk, rfl⟩ := List.mem_map.mp q
        have := hw.2 0 (by rw [ef]; simp) (by omega)
        rw [bn k hk 0 rfl] at this
        cases this
theorem eqvAll_ints : ∀ (a b : List Int), PyData.eqvAll (a.map PyData.int) (b.map PyData.int) = decide (a = b)
  | [], [] => rfl
  | [], y :: t => by simp [PyData.eqvAll]
  | x :: r, [] => by simp [PyData.eqvAll]
  | x :: r, y :: t => by
    have ih := eqvAll_ints r t
    rw [List.map_cons, List.map_cons]
    simp only [PyData.eqvAll, PyData.eqv]
    rw [ih, Bool.eq_iff_iff]
    simp
theorem dp_marks {K : PySem.W.Frag} {H : Hp} {v : V} {ms : List Int} (h : Xci.Mk H v ms) : Dp K H v (.tuple (ms.map PyData.int)) := by
  have q := dp_tup (K := K) h (flat0_ints ms)
  rw [toD_ints] at q
  exact q
theorem sh_marks (ns : List Int) : SeqAt.shaped (.tuple (ns.map PyData.int)) = true := by
  obtain ⟨a, b⟩ := lay_ints ns
  simp [SeqAt.shaped, PyData.canLay0, PyData.depth, a, b]
end Xci

namespace Xci
open PySem L2
/-! ### sorted tuples of ints; the cells of one form -/
def leC (c d : List Int) : Prop := HT.lexLt d c = false
theorem lex_eq : ∀ xs ys : List Int, HT.lexLt xs ys = false → HT.lexLt ys xs = false → xs = ys
  | [], [], _, _ => rfl
  | [], y :: ys, h, _ => by rw [HT.lexLt_nil_cons] at h; cases h
  | x :: xs, [], _, h => by rw [HT.lexLt_nil_cons] at h; cases h
  | x :: xs, y :: ys, h, k => by
    rw [HT.lexLt_cons] at h k
    by_cases e : x = y
    · subst e
      rw [if_pos rfl] at h k
      rw [lex_eq xs ys h k]
    · rw [if_neg e] at h
      rw [if_neg (fun q => e q.symm)] at k
      have a := of_decide_eq_false h
      have b := of_decide_eq_false k
      omega
theorem sortedU {cs ds : List (List Int)} (h : cs.Pairwise leC) (k : ds.Pairwise leC) (p : cs.Perm ds) : cs = ds :=
  List.Perm.eq_of_pairwise (le := leC) (fun a b _ _ x y => lex_eq a b y x) h k p
def unInt : V → Int
  | .int i => i
  | _ => 0
theorem unInts (ns : List Int) : (ns.map V.int).map unInt = ns := by
  rw [List.map_map]
  exact (List.map_congr_left fun _ _ => rfl).trans (List.map_id ns)
/-- the ints of the tuple at x -/
def kOf (H : Hp) : V → List Int
  | .ref t => match H t with
    | some (.tup vs) => vs.map unInt
    | _ => []
  | _ => []
theorem kOf_mk {H : Hp} {x : V} {c : List Int} (m : Xci.Mk H x c) : kOf H x = c := by
  obtain ⟨t, rfl, h⟩ := m
  show (match H t with
    | some (.tup vs) => vs.map unInt
    | _ => []) = c
  rw [h]
  exact unInts c
theorem mks_kOf {H : Hp} : ∀ {xs : List V} {cs : List (List Int)}, Mks H xs cs → xs.map (kOf H) = cs
  | _, _, .nil => rfl
  | _, _, .cons m r => by rw [List.map_cons, kOf_mk m, mks_kOf r]
/-- sorted(xs) of tuples with the contents cs -/
theorem sorted_rows {K : PySem.W.Frag} {H : Hp} {Q : VK} {a : Addr} {xs : List V} {cs : List (List Int)} (hs : SqL K H a xs) (m : Mks H xs cs)
    (G : ∀ (ys : List V) (ds : List (List Int)) (p : Addr), Mks H ys ds → ds.Pairwise leC → ds.Perm cs → H p = none → Q (.ref p) (upd H p (.lst ys))) : rSortedTI K [.ref a] H Q := by
  refine ⟨a, xs, kOf H, rfl, hs, fun x hx => ?_, fun ys p up perm free => ?_⟩
  · obtain ⟨i, hi⟩ := List.getElem?_of_mem hx
    obtain ⟨c, _, t, e, h⟩ := Paired.get m hi
    refine ⟨t, e, ?_⟩
    rw [kOf_mk ⟨t, e, h⟩]
    exact h
  · obtain ⟨ds, md, pd⟩ := Paired.perm perm m
    refine G ys ds p md ?_ pd free
    rw [← mks_kOf md, List.pairwise_map]
    exact up
theorem lay_rows : ∀ (cs : List (List Int)), PyData.canLayAll0 (cs.map fun c => PyData.tuple (c.map PyData.int)) = true ∧ PyData.depthAll (cs.map fun c => PyData.tuple (c.map PyData.int)) ≤ 1
  | [] => ⟨rfl, Nat.zero_le _⟩
  | c :: cs => by
    obtain ⟨a, b⟩ := lay_rows cs
    obtain ⟨d, e⟩ := lay_ints c
    rw [List.map_cons]
    refine ⟨by simp [PyData.canLayAll0, PyData.canLay0, a, d], ?_⟩
    rw [PyData.depthAll]
    refine Nat.max_le.mpr ⟨?_, b⟩
    simp [PyData.depth, e]
theorem sh_rows (cs : List (List Int)) : SeqAt.shaped (.list (cs.map fun c => PyData.tuple (c.map PyData.int))) = true := by
  obtain ⟨a, b⟩ := lay_rows cs
  have d : PyData.depth (.list (cs.map fun c => PyData.tuple (c.map PyData.int))) ≤ 64 := by
    simp only [PyData.depth]
    omega
  unfold SeqAt.shaped
  rw [decide_eq_true d, Bool.and_true]
  simpa [PyData.canLay0] using a
theorem dp_rows {K : PySem.W.Frag} {H : Hp} : ∀ {ys : List V} {cs : List (List Int)}, Mks H ys cs → DpAll K H ys (cs.map fun c => PyData.tuple (c.map PyData.int))
  | _, _, .nil => .nil
  | _, _, .cons m r => .cons (dp_marks m) (dp_rows r)
/-- u != v of two lists of the same tuples of ints: no -/
theorem ne_rows {K : PySem.W.Frag} {H : Hp} {a b : Addr} {xs ys : List V} {cs : List (List Int)} {Q : V → Hp → Prop} (ha : H a = some (.lst xs)) (hb : H b = some (.lst ys)) (ma : Mks H xs cs) (mb : Mks H ys cs) (q : Q (.bl false) H) : rNeD K (.ref a) (.ref b) H Q := by
  refine ⟨_, _, .lst (SqL.of ha) (dp_rows ma), .lst (SqL.of hb) (dp_rows mb), sh_rows cs, sh_rows cs, ?_⟩
  rw [eqv_same (sh_rows cs)]
  exact q
/-- the cells of each form, told in order -/
structure Sm (fs : List (Option Str)) (cs : List (List Int)) : Prop where
  up : cs.Pairwise leC
  of : ∃ zs : List Str, zs.Nodup ∧ (∀ z, z ∈ zs ↔ some z ∈ fs) ∧ cs.Perm (zs.map fun z => nat2 (spots fs z))
theorem Sm.one {fs : List (Option Str)} {cs ds : List (List Int)} (h : Sm fs cs) (k : Sm fs ds) : cs = ds := by
  obtain ⟨zs, n, a, p⟩ := h.of
  obtain ⟨ys, m, b, q⟩ := k.of
  have e : zs.Perm ys := (List.perm_ext_iff_of_nodup n m).mpr fun z => (a z).trans (b z).symm
  exact sortedU h.up k.up (p.trans ((e.map _).trans q.symm))
theorem Sm.few {fs : List (Option Str)} {cs : List (List Int)} (h : Sm fs cs) : cs.length ≤ fs.length := by
  obtain ⟨zs, n, a, p⟩ := h.of
  rw [p.length_eq, List.length_map]
  have q : (zs.map some).length ≤ fs.length := List.Nodup.length_le_of_subset (by
    unfold List.Nodup
    rw [List.pairwise_map]
    exact n.imp fun h e => h (Option.some.inj e)) fun x hx => by
      obtain ⟨z, hz, rfl⟩ := List.mem_map.mp hx
      exact (a z).mp hz
  rwa [List.length_map] at q
theorem Sm.each {fs : List (Option Str)} {cs : List (List Int)} (h : Sm fs cs) {c : List Int} (m : c ∈ cs) : ∃ z, some z ∈ fs ∧ c = nat2 (spots fs z) := by
  obtain ⟨zs, n, a, p⟩ := h.of
  obtain ⟨z, hz, e⟩ := List.mem_map.mp (p.subset m)
  exact ⟨z, (a z).mp hz, e.symm⟩
/-- under other names -/
theorem Sm.ren {fs : List (Option Str)} {cs : List (List Int)} (h : Sm fs cs) (ren : Str → Str) (inj : ∀ x y, some x ∈ fs → some y ∈ fs → ren x = ren y → x = y) : Sm (fs.map (Option.map ren)) cs := by
  obtain ⟨zs, n, a, p⟩ := h.of
  have sp : ∀ z, some z ∈ fs → spots (fs.map (Option.map ren)) (ren z) = spots fs z := fun z hz => by
    unfold spots
    rw [List.length_map]
    refine List.filter_congr fun i hi => ?_
    rw [decide_eq_decide, List.getElem?_map]
    cases e : fs[i]? with
    | none => simp
    | some f =>
      cases f with
      | none => simp
      | some y =>
        have my : some y ∈ fs := List.mem_of_getElem? e
        constructor
        · intro q
          have q' : ren y = ren z := Option.some.inj (Option.some.inj q)
          rw [inj y z my hz q']
        · intro q
          have q' : y = z := Option.some.inj (Option.some.inj q)
          rw [q'] <;> rfl
  refine ⟨h.up, zs.map ren, ?_, fun z => ?_, ?_⟩
  · unfold List.Nodup
    rw [List.pairwise_map]
    refine List.Pairwise.imp_of_mem (fun {x y} hx hy ne e => ne (inj x y ((a x).mp hx) ((a y).mp hy) e)) n
  · rw [List.mem_map, List.mem_map]
    constructor
    · rintro ⟨y, hy, rfl⟩
      exact ⟨some y, (a y).mp hy, rfl⟩
    · rintro ⟨f, hf, e⟩
      cases f with
      | none => cases e
      | some y => exact ⟨y, (a y).mpr hf, Option.some.inj e⟩
  · rw [List.map_map]
    refine p.trans (List.Perm.of_eq (List.map_congr_left fun z hz => ?_))
    show _ = nat2 (spots (fs.map (Option.map ren)) (ren z))
    rw [sp z ((a z).mp hz)]
/-- one form in the place of another -/
def joinF (z1 z2 : Str) (fs : List (Option Str)) : List (Option Str) := fs.map fun f => if f = some z2 then some z1 else f
/-- the cells that have the one or the other form -/
def bothN (z1 z2 : Str) (fs : List (Option Str)) (i : Nat) : List Nat := (List.range i).filter fun j => decide (fs[j]? = some (some z1) ∨ fs[j]? = some (some z2))
theorem both_next {fs : List (Option Str)} {z1 z2 : Str} {i : Nat} {f : Option Str} (e : fs[i]? = some f) : bothN z1 z2 fs (i + 1) = bothN z1 z2 fs i ++ (if f = some z1 ∨ f = some z2 then [i] else []) := by
  unfold bothN
  rw [List.range_succ, List.filter_append, List.filter_cons, List.filter_nil, e]
  have q : (some f = some (some z1) ∨ some f = some (some z2)) ↔ (f = some z1 ∨ f = some z2) := ⟨fun h => h.imp Option.some.inj Option.some.inj, fun h => h.imp (congrArg some) (congrArg some)⟩
  by_cases c : f = some z1 ∨ f = some z2
  · rw [if_pos c, if_pos (decide_eq_true (q.mpr c))]
  · rw [if_neg c, if_neg (fun h => c (q.mp (of_decide_eq_true h)))]
theorem both_len (z1 z2 : Str) (fs : List (Option Str)) (i : Nat) : (bothN z1 z2 fs i).length ≤ i := by
  have h := List.length_filter_le (fun j => decide (fs[j]? = some (some z1) ∨ fs[j]? = some (some z2))) (List.range i)
  rwa [List.length_range] at h
theorem join_both (z1 z2 : Str) (fs : List (Option Str)) : spots (joinF z1 z2 fs) z1 = bothN z1 z2 fs fs.length := by
  unfold spots bothN joinF
  rw [List.length_map]
  refine List.filter_congr fun i hi => ?_
  rw [decide_eq_decide, List.getElem?_map]
  cases e : fs[i]? with
  | none => simp
  | some f =>
    show some (if f = some z2 then some z1 else f) = some (some z1) ↔ _
    by_cases c : f = some z2
    · rw [if_pos c, c]
      simp
    · rw [if_neg c]
      constructor
      · exact .inl
      · rintro (h | h)
        · exact h
        · exact absurd (Option.some.inj h) c
theorem join_else {z1 z2 z : Str} (fs : List (Option Str)) (h1 : z ≠ z1) (h2 : z ≠ z2) : spots (joinF z1 z2 fs) z = spots fs z := by
  unfold spots joinF
  rw [List.length_map]
  refine List.filter_congr fun i hi => ?_
  rw [decide_eq_decide, List.getElem?_map]
  cases e : fs[i]? with
  | none => simp
  | some f =>
    show some (if f = some z2 then some z1 else f) = some (some z) ↔ _
    by_cases c : f = some z2
    · rw [if_pos c, c]
      constructor
      · intro q
        exact absurd (Option.some.inj (Option.some.inj q)).symm h1
      · intro q
        exact absurd (Option.some.inj (Option.some.inj q)).symm h2
    · rw [if_neg c]
theorem mem_join {z1 z2 z : Str} {fs : List (Option Str)} (m2 : some z2 ∈ fs) : some z ∈ joinF z1 z2 fs ↔ z = z1 ∨ (z ≠ z2 ∧ some z ∈ fs) := by
  unfold joinF
  rw [List.mem_map]
  constructor
  · rintro ⟨f, hf, e⟩
    by_cases c : f = some z2
    · rw [if_pos c] at e
      exact .inl (Option.some.inj e).symm
    · rw [if_neg c] at e
      exact .inr ⟨fun q => c (e.trans (congrArg some q)), e ▸ hf⟩
  · rintro (h | ⟨h, m⟩)
    · exact ⟨some z2, m2, by rw [if_pos rfl, h]⟩
    · exact ⟨some z, m, if_neg fun q => h (Option.some.inj q)⟩
/-- does the tuple begin outside of both? -/
def apart (b : List Nat) (c : List Int) : Bool := !decide (c.headD 0 ∈ nat2 b)
theorem mem_nat2 {j : Nat} {js : List Nat} : (j : Int) ∈ nat2 js ↔ j ∈ js := by
  unfold nat2
  rw [List.mem_map]
  constructor
  · rintro ⟨k, hk, e⟩
    have : k = j := by omega
    exact this ▸ hk
  · exact fun h => ⟨j, h, rfl⟩
theorem mem_both {z1 z2 : Str} {fs : List (Option Str)} {j : Nat} : j ∈ bothN z1 z2 fs fs.length ↔ fs[j]? = some (some z1) ∨ fs[j]? = some (some z2) := by
  unfold bothN
  rw [List.mem_filter, List.mem_range, decide_eq_true_eq]
  exact ⟨fun h => h.2, fun h => ⟨h.elim (fun q => (List.getElem?_eq_some_iff.mp q).1) (fun q => (List.getElem?_eq_some_iff.mp q).1), h⟩⟩
theorem apart_spots {z1 z2 z : Str} {fs : List (Option Str)} (m : some z ∈ fs) : apart (bothN z1 z2 fs fs.length) (nat2 (spots fs z)) = decide (z ≠ z1 ∧ z ≠ z2) := by
  obtain ⟨j, js, e⟩ : ∃ j js, spots fs z = j :: js := by
    cases e : spots fs z with
    | nil => exact absurd e (spots_ne m)
    | cons j js => exact ⟨j, js, rfl⟩
  have at_ : fs[j]? = some (some z) := spots_at.mp (by rw [e]; exact List.mem_cons_self)
  unfold apart
  rw [e]
  show (!decide ((j : Int) ∈ nat2 (bothN z1 z2 fs fs.length))) = _
  rw [Bool.eq_iff_iff, Bool.not_eq_true', decide_eq_false_iff_not, decide_eq_true_eq, mem_nat2, mem_both, at_]
  constructor
  · intro h
    exact ⟨fun q => h (.inl (by rw [q])), fun q => h (.inr (by rw [q]))⟩
  · rintro ⟨h1, h2⟩ (q | q)
    · exact h1 (Option.some.inj (Option.some.inj q))
    · exact h2 (Option.some.inj (Option.some.inj q))
/-- the tuples that begin elsewhere, and both: these are told of the joined one -/
theorem Sm.join {fs : List (Option Str)} {cs ds : List (List Int)} {z1 z2 : Str} (h : Sm fs cs) (m1 : some z1 ∈ fs) (m2 : some z2 ∈ fs) (ne : z1 ≠ z2) (up : ds.Pairwise leC)
    (p : ds.Perm (cs.filter (apart (bothN z1 z2 fs fs.length)) ++ [nat2 (bothN z1 z2 fs fs.length)])) : Sm (joinF z1 z2 fs) ds := by
  obtain ⟨zs, n, a, q⟩ := h.of
  have mid : (zs.filter fun z => decide (z ≠ z2)).Perm ((zs.filter fun z => decide (z ≠ z1 ∧ z ≠ z2)) ++ [z1]) := by
    refine (List.perm_ext_iff_of_nodup (n.sublist List.filter_sublist) (List.nodup_append.mpr ⟨n.sublist List.filter_sublist, by simp, fun x hx y hy e => ?_⟩)).mpr fun z => ?_
    · rw [List.mem_singleton.mp hy] at e
      have := of_decide_eq_true (List.mem_filter.mp hx).2
      exact this.1 e
    · rw [List.mem_append, List.mem_filter, List.mem_filter, List.mem_singleton, decide_eq_true_eq, decide_eq_true_eq]
      constructor
      · rintro ⟨x, y⟩
        by_cases e : z = z1
        · exact .inr e
        · exact .inl ⟨x, e, y⟩
      · rintro (⟨x, _, y⟩ | e)
        · exact ⟨x, y⟩
        · rw [e]
          exact ⟨(a z1).mpr m1, ne⟩
  refine ⟨up, zs.filter fun z => decide (z ≠ z2), n.sublist List.filter_sublist, fun z => ?_, ?_⟩
  · rw [mem_join m2, List.mem_filter, decide_eq_true_eq, a z]
    constructor
    · rintro ⟨x, y⟩
      exact .inr ⟨y, x⟩
    · rintro (e | ⟨x, y⟩)
      · rw [e]
        exact ⟨m1, ne⟩
      · exact ⟨y, x⟩
  · refine p.trans (List.Perm.trans ?_ (mid.map _).symm)
    rw [List.map_append]
    refine List.Perm.append ?_ (List.Perm.of_eq (by rw [List.map_cons, List.map_nil, join_both]))
    refine (q.filter _).trans (List.Perm.of_eq ?_)
    rw [List.filter_map]
    have e1 : zs.filter (apart (bothN z1 z2 fs fs.length) ∘ fun z => nat2 (spots fs z)) = zs.filter fun z => decide (z ≠ z1 ∧ z ≠ z2) := List.filter_congr fun z hz => apart_spots ((a z).mp hz)
    rw [e1]
    refine List.map_congr_left fun z hz => ?_
    have := of_decide_eq_true (List.mem_filter.mp hz).2
    rw [join_else fs this.1 this.2]
theorem join_len (z1 z2 : Str) (fs : List (Option Str)) : (joinF z1 z2 fs).length = fs.length := List.length_map ..
/-- a joined table's forms are forms of a table -/
theorem FormsOk.join {n : Nat} {fs : List (Option Str)} {z1 z2 : Str} (ok : FormsOk n fs) (m1 : some z1 ∈ fs) (m2 : some z2 ∈ fs) (rise : ∃ zs, Rising fs zs) : FormsOk n (joinF z1 z2 fs) := by
  obtain ⟨zs, r⟩ := rise
  refine ⟨by rw [join_len]; exact ok.len, ok.few, fun z hz => ?_, fun us ru => ?_⟩
  · rcases (mem_join m2).mp hz with e | ⟨_, m⟩
    · rw [e]; exact ok.word z1 m1
    · exact ok.word z m
  · have sub : us.length ≤ zs.length := List.Nodup.length_le_of_subset ru.nd fun z hz => (r.all z).mpr (by
      rcases (mem_join m2).mp ((ru.all z).mp hz) with e | ⟨_, m⟩
      · rw [e]; exact m1
      · exact m)
    have := ok.unlike zs r
    omega
end Xci

namespace Xci
open PySem PySem.Spec PyProof.Rows L2
/-! ### tables that books make, in any of the four manners -/
theorem ok_imp {P : Program} {w : World} {K : PySem.W.Frag} {mg : Str → Option Value} {base : Heap} {f : Addr} {fd : FuncData} {ps : List Str} {k : Nat} {sp sp' : Sp} (g : FnOk P w K mg base CX0 k f fd ps sp) (h : ∀ vs H Q E, sp' vs H Q E → sp vs H Q E) : FnOk P w K mg base CX0 k f fd ps sp' :=
  ⟨fun vs H Q E q => g.len vs H Q E (h _ _ _ _ q), fun A outer s H args us vs Q E hr he hb hv q => g.run A outer s H args us vs Q E hr he hb hv (h _ _ _ _ q)⟩
theorem ok_both {P : Program} {w : World} {K : PySem.W.Frag} {mg : Str → Option Value} {base : Heap} {f : Addr} {fd : FuncData} {ps : List Str} {k : Nat} {sp sp' : Sp} (g : FnOk P w K mg base CX0 k f fd ps sp) (g' : FnOk P w K mg base CX0 k f fd ps sp') : FnOk P w K mg base CX0 k f fd ps (fun vs H Q E => sp vs H Q E ∨ sp' vs H Q E) :=
  ⟨fun vs H Q E h => h.elim (g.len vs H Q E) (g'.len vs H Q E), fun A outer s H args us vs Q E hr he hb hv hs => hs.elim (fun h => g.run A outer s H args us vs Q E hr he hb hv h) (fun h => g'.run A outer s H args us vs Q E hr he hb hv h)⟩
theorem n_row3 {man : Str} (h : Man man) : man = "row" ∨ (man ≠ "row" ∧ Man3 man) := by
  rcases h with rfl | rfl | rfl | rfl
  · exact .inl rfl
  · exact .inr ⟨by decide +kernel, .inl rfl⟩
  · exact .inr ⟨by decide +kernel, .inr (.inl rfl)⟩
  · exact .inr ⟨by decide +kernel, .inr (.inr rfl)⟩
theorem n_roww : ("row" : Str) ≠ "weights" := by decide +kernel
/-- the number of the entry that speaks at a cell, in any manner -/
def whoN (man : Str) (ws : List Int) (es : List Ent) (ms : List Int) : Option Nat :=
  if man = "row" then (fitN es ms).head? else match lawRes (fitN es ms) (beatA man ws es) with
    | .ent j => some j
    | _ => none
/-- the form that is heard at a cell -/
def heard (man : Str) (ws : List Int) (es : List Ent) (ms : List Int) : Option Str := match whoN man ws es ms with
  | some j => (es[j]?).map (·.2)
  | none => none
def heardAll (man : Str) (ws : List Int) (es : List Ent) (cells : List (List Int)) : List (Option Str) := cells.map (heard man ws es)
def numV : Option Nat → V
  | some j => .int (j : Int)
  | none => .non
theorem who_row (ws : List Int) (es : List Ent) (ms : List Int) : numV (whoN "row" ws es ms) = hd1 (fitN es ms) := by
  unfold whoN
  rw [if_pos rfl]
  cases fitN es ms <;> rfl
theorem who_res {man : Str} (h : man ≠ "row") (ws : List Int) (es : List Ent) (ms : List Int) : numV (whoN man ws es ms) = resV (lawRes (fitN es ms) (beatA man ws es)) := by
  unfold whoN
  rw [if_neg h]
  cases lawRes (fitN es ms) (beatA man ws es) <;> rfl
theorem who_lt {man : Str} {ws : List Int} {es : List Ent} {ms : List Int} {j : Nat} (h : whoN man ws es ms = some j) : j < es.length := by
  unfold whoN at h
  split at h
  · exact fit_lt j (List.mem_of_mem_head? h)
  · rcases lawRes_cases (beatA_ok man ws es) (fit_nd es ms) with ⟨_, r⟩ | ⟨n, hw, r⟩ | ⟨_, _, r⟩
    · rw [r] at h; cases h
    · rw [r] at h
      obtain rfl := Option.some.inj h
      exact fit_lt _ hw.1
    · rw [r] at h; cases h
theorem heard_at {man : Str} {ws : List Int} {es : List Ent} {ms : List Int} {j : Nat} {e : Ent} (h : whoN man ws es ms = some j) (he : es[j]? = some e) : heard man ws es ms = some e.2 := by
  unfold heard
  rw [h]
  show (es[j]?).map (·.2) = _
  rw [he]
  rfl
theorem heard_non {man : Str} {ws : List Int} {es : List Ent} {ms : List Int} (h : whoN man ws es ms = none) : heard man ws es ms = none := by
  unfold heard
  rw [h]
theorem heard_mem {man : Str} {ws : List Int} {es : List Ent} {ms : List Int} {z : Str} (h : heard man ws es ms = some z) : z ∈ es.map (·.2) := by
  unfold heard at h
  split at h
  · rename_i j _
    obtain ⟨e, he, rfl⟩ := Option.map_eq_some_iff.mp h
    exact List.mem_map_of_mem (List.mem_of_getElem? he)
  · cases h
theorem heardAll_mem {man : Str} {ws : List Int} {es : List Ent} {cells : List (List Int)} {z : Str} (h : some z ∈ heardAll man ws es cells) : z ∈ es.map (·.2) := by
  obtain ⟨c, _, e⟩ := List.mem_map.mp h
  exact heard_mem e
theorem heardAll_len (man : Str) (ws : List Int) (es : List Ent) (cells : List (List Int)) : (heardAll man ws es cells).length = cells.length := by unfold heardAll; rw [List.length_map]
theorem heardAll_at {man : Str} {ws : List Int} {es : List Ent} {cells : List (List Int)} {i : Nat} {c : List Int} (h : cells[i]? = some c) : (heardAll man ws es cells)[i]? = some (heard man ws es c) := by
  unfold heardAll
  rw [List.getElem?_map, h]
  rfl
/-- forms out of few words -/
theorem forms_few {n : Nat} {fs : List (Option Str)} {zs : List Str} (len : fs.length = n) (few : n ≤ 24) (ok : ∀ z ∈ zs, WordOk z) (le : zs.length ≤ 12) (all : ∀ z, some z ∈ fs → z ∈ zs) : FormsOk n fs :=
  ⟨len, few, fun z hz => ok z (all z hz), fun us rise => Nat.le_trans (List.Nodup.length_le_of_subset rise.nd fun x hx => all x ((rise.all x).mp hx)) le⟩
theorem words_ok {es : List Ent} (h : ∀ e ∈ es, EntOk e) : ∀ z ∈ es.map (·.2), WordOk z := fun z hz => by
  obtain ⟨e, he, rfl⟩ := List.mem_map.mp hz
  exact (h e he).w
/-- told forms that are due, number by number below i -/
def fits1 (fs due : List (Option Str)) (j : Nat) : Bool := decide (fs.getD j none = none) || decide (fs.getD j none = due.getD j none)
def agree (fs due : List (Option Str)) (i : Nat) : Bool := (List.range i).all (fits1 fs due)
theorem agree_next (fs due : List (Option Str)) (i : Nat) : agree fs due (i + 1) = (agree fs due i && fits1 fs due i) := by
  unfold agree
  rw [List.range_succ, List.all_append]
  simp
theorem agree_no {fs due : List (Option Str)} {i n : Nat} (h : fits1 fs due i = false) (hi : i < n) : agree fs due n = false := by
  cases e : agree fs due n with
  | false => rfl
  | true =>
    have := List.all_eq_true.mp e i (List.mem_range.mpr hi)
    rw [h] at this
    cases this
theorem agree_all {fs due : List (Option Str)} {n : Nat} (h : ∀ j, j < n → fs.getD j none = none ∨ fs.getD j none = due.getD j none) : agree fs due n = true := by
  unfold agree
  refine List.all_eq_true.mpr fun j hj => ?_
  unfold fits1
  rcases h j (List.mem_range.mp hj) with e | e
  · rw [decide_eq_true e, Bool.true_or]
  · rw [decide_eq_true e, Bool.or_true]
theorem fits1_at {fs due : List (Option Str)} {i : Nat} {f d : Option Str} (h : fs[i]? = some f) (k : due[i]? = some d) : fits1 fs due i = (decide (f = none) || decide (f = d)) := by
  unfold fits1
  rw [List.getD_eq_getElem?_getD, List.getD_eq_getElem?_getD, h, k]
  rfl
theorem formV_eq (f g : Option Str) : decide (formV f = formV g) = decide (f = g) := by
  cases f with
  | none => cases g <;> rfl
  | some y =>
    cases g with
    | none => rfl
    | some z =>
      rw [decide_eq_decide]
      exact ⟨fun h => by rw [V.str.inj h], fun h => by rw [Option.some.inj h]⟩
theorem formV_non (f : Option Str) : decide (formV f = V.non) = decide (f = none) := formV_eq f none
theorem forms_scal (f g : Option Str) : scal (formV f) (formV g) = true := by cases f <;> cases g <;> rfl
theorem cutFrom (xs : List V) (k : Nat) : cutV xs (some (k : Int)) none = xs.drop k := by
  unfold cutV
  have e1 : HT.sIx xs.length xs.length none = xs.length := rfl
  rw [e1, HT.sIx_nat]
  by_cases h : k ≤ xs.length
  · rw [Nat.min_eq_left h, List.take_of_length_le (by rw [List.length_drop]; exact Nat.le_refl _)]
  · rw [Nat.min_eq_right (by omega), List.drop_of_length_le (Nat.le_refl _), List.drop_of_length_le (by omega)]
    simp
theorem made_table {CF C x dx fam p pc : Addr} {H : Hp} {many : Int} {ys : List V} {fs : List (Option Str)} {Q : VK} {E : XK} (nx : H x = Option.none) (ndx : H dx = Option.none) (hf : FamAt CF H fam many pc) (hc : H pc = some (.tup ys)) (hp : H p = some (.tup (fs.map formV))) (ok : FormsOk ys.length fs)
    (G : ∀ H', TabAt C H' x fam p → Same H H' → Q .non H') : spTab CF C [.ref x, .ref fam, .ref p] (upd (upd H dx (.own x)) x (.ins C dx [])) Q E := by
  have s3 : Same H (upd (upd H dx (.own x)) x (.ins C dx [])) := fun b o e => by rw [upd_ne (ne_of_none e nx), upd_ne (ne_of_none e ndx)]; exact e
  obtain ⟨df, hf⟩ := hf
  refine ⟨x, dx, fam, many, pc, ys, p, fs, rfl, upd_same, ⟨df, s3 _ _ hf⟩, (ne_of_none hf nx).symm, s3 _ _ hc, s3 _ _ hp, ok, fun H' ht kp => ?_⟩
  exact G H' ht fun b o e => kp b o (s3 b o e) (ne_of_none e nx)
/-- some of the told forms are opened -/
def Less (due gs : List (Option Str)) : Prop := ∀ (j : Nat) (x : Option Str), gs[j]? = some x → x = none ∨ due[j]? = some x
theorem Less.agree {due gs : List (Option Str)} (h : Less due gs) (n : Nat) (hn : n ≤ gs.length) : agree gs due n = true := agree_all fun j hj => by
  have g := List.getElem?_eq_getElem (show j < gs.length by omega)
  rcases h j _ g with e | e
  · left; rw [List.getD_eq_getElem?_getD, g, e]; rfl
  · right; rw [List.getD_eq_getElem?_getD, List.getD_eq_getElem?_getD, g, e]
theorem Less.self (due : List (Option Str)) : Less due due := fun _ _ h => .inr h
theorem Less.mem {due gs : List (Option Str)} (h : Less due gs) {z : Str} (hz : some z ∈ gs) : some z ∈ due := by
  obtain ⟨j, hj⟩ := List.mem_iff_getElem?.mp hz
  rcases h j _ hj with e | e
  · cases e
  · exact List.mem_of_getElem? e
theorem Less.snoc {due gs : List (Option Str)} (h : Less due gs) {x : Option Str} (hx : x = none ∨ due[gs.length]? = some x) : Less due (gs ++ [x]) := fun j y hj => by
  by_cases lt : j < gs.length
  · rw [List.getElem?_append_left lt] at hj
    exact h j y hj
  · rw [List.getElem?_append_right (by omega)] at hj
    have : j - gs.length = 0 := by
      have := (List.getElem?_eq_some_iff.mp hj).1
      simp at this
      omega
    rw [this] at hj
    obtain rfl := Option.some.inj hj
    have : j = gs.length := by omega
    rw [this]
    exact hx
/-- a word put at a cell -/
def putAt (gs : List (Option Str)) (k : Nat) (z : Str) : List (Option Str) := gs.take k ++ [some z] ++ gs.drop (k + 1)
theorem putAt_len {gs : List (Option Str)} {k : Nat} {z : Str} (h : k < gs.length) : (putAt gs k z).length = gs.length := by
  unfold putAt
  rw [List.length_append, List.length_append, List.length_take, List.length_drop, List.length_singleton]
  omega
theorem putAt_get {gs : List (Option Str)} {k : Nat} {z : Str} (h : k < gs.length) (j : Nat) : (putAt gs k z).getD j none = if j = k then some z else gs.getD j none := by
  have e : putAt gs k z = gs.set k (some z) := by
    unfold putAt
    rw [List.set_eq_take_append_cons_drop, if_pos h, List.append_assoc]
    rfl
  rw [e, List.getD_eq_getElem?_getD, List.getD_eq_getElem?_getD, List.getElem?_set]
  by_cases q : k = j
  · subst q
    rw [if_pos rfl, if_pos rfl, if_pos h]
    rfl
  · rw [if_neg q, if_neg fun x => q x.symm]
theorem putAt_mem {gs : List (Option Str)} {k : Nat} {z y : Str} (h : some y ∈ putAt gs k z) : y = z ∨ some y ∈ gs := by
  unfold putAt at h
  rcases List.mem_append.mp h with h | h
  · rcases List.mem_append.mp h with h | h
    · exact .inr (List.mem_of_mem_take h)
    · exact .inl (Option.some.inj (List.mem_singleton.mp h))
  · exact .inr (List.mem_of_mem_drop h)
theorem putAt_agree {due gs : List (Option Str)} {k : Nat} {z : Str} {d : Option Str} (h : Less due gs) (lt : k < gs.length) (hd : due[k]? = some d) : agree (putAt gs k z) due gs.length = decide (d = some z) := by
  have at_ : fits1 (putAt gs k z) due k = decide (d = some z) := by
    unfold fits1
    rw [putAt_get lt, if_pos rfl, List.getD_eq_getElem?_getD, hd]
    show (decide (some z = none) || decide (some z = d)) = _
    by_cases q : d = some z
    · simp [q]
    · have q' : ¬ some z = d := fun e => q e.symm
      simp [q, q']
  by_cases q : d = some z
  · rw [decide_eq_true q]
    refine agree_all fun j hj => ?_
    rw [putAt_get lt]
    by_cases e : j = k
    · rw [if_pos e, e, List.getD_eq_getElem?_getD, hd, q]
      exact .inr rfl
    · rw [if_neg e]
      have g := List.getElem?_eq_getElem hj
      rcases h j _ g with r | r
      · left; rw [List.getD_eq_getElem?_getD, g, r]; rfl
      · right; rw [List.getD_eq_getElem?_getD, List.getD_eq_getElem?_getD, g, r]
  · rw [decide_eq_false q] at at_ ⊢
    exact agree_no at_ lt
theorem open_less (due : List (Option Str)) (n : Nat) : Less due (List.replicate n none) := fun j x h => .inl (by
  rw [List.getElem?_replicate] at h
  split at h
  · exact (Option.some.inj h).symm
  · cases h)
theorem open_forms (n : Nat) : (List.replicate n (none : Option Str)).map formV = List.replicate n .non := by rw [List.map_replicate]; rfl
theorem part_lo {xs : List V} {k : Nat} (h : k < xs.length) : ¬ (HT.sIx xs.length 0 none = 0 ∧ HT.sIx xs.length xs.length (some (k : Int)) = xs.length) := fun w => by
  have := w.2
  rw [HT.sIx_nat] at this
  omega
theorem part_hi {xs : List V} {k : Nat} (h : k < xs.length) : ¬ (HT.sIx xs.length 0 (some ((k : Int) + 1)) = 0 ∧ HT.sIx xs.length xs.length none = xs.length) := fun w => by
  have := w.1
  rw [show ((k : Int) + 1) = ((k + 1 : Nat) : Int) by omega, HT.sIx_nat] at this
  omega
end Xci

set_option maxHeartbeats 4000000
namespace Xci
open PySem PySem.Spec PyProof.Rows L2
theorem tuple_once (l : Addr) (items : Array Value) (n : Nat) (dd : Option Addr) (sl : Array (Option Value)) (u : Tok) :
    Meets (Builtin.«tuple.__mul__» ⟨[.ref l, .int 1 u], []⟩) (fun _ R s => s.heap.get? l = some { cls := .type "tuple", dict := dd, data := .seq items n, slots := sl } ∧ R (.ok (.ret (Value.ref l))) s) :=
  .of_wp fun prog w A R s h => by
    obtain ⟨hp, g, d, tk, os⟩ := s
    obtain ⟨hl, h⟩ := h
    have f1 := AutoSeq1.idx_int
    wp_walk using wpAny_loadPart' hl
    exact ⟨_, rfl, h⟩
/-- t * k of a tuple with things in it -/
def rRepN (K : PySem.W.Frag) : R2 := fun x y H Q => ∃ l k xs, x = .ref l ∧ y = .int k ∧ SqT K H l xs ∧ xs ≠ [] ∧ 1 ≤ k ∧ k ≤ 1000 ∧ xs.length ≤ 1000 ∧ (k = 1 → Q (.ref l) H) ∧ (2 ≤ k → ∀ p, H p = Option.none → Q (.ref p) (upd H p (.tup (List.replicate k.toNat xs).flatten)))
theorem op_repN {X : Cx} : OpR X (binaryOp .Mult) (rRepN X.K) := by
  intro pins s σ H x y v u Q I rx ry h
  obtain ⟨l, k, xs, rfl, rfl, hT, hne, h1, h2, hz, q1, q2⟩ := h
  by_cases hk : k = 1
  · subst hk
    cases rx
    obtain ⟨t, rfl⟩ := ry
    obtain ⟨its, r, ⟨⟨cls, dd, data, sl⟩, ho, hc, n, hd⟩, hs⟩ := I.tuple hT
    simp only at hc hd
    subst hc hd
    refine wpAny_binaryOp_repeat_ref (T := "tuple") (U := "int") (by decide) ⟨_, ho, rfl⟩ (fun s' => typeIs_int s' 1 t) noFill_tuple_mul F.fills_int_mul F.slot_int_rmul repeat_tuple F.slot_int_index.lookup
      (call_meets F.slot_int_rmul (typeIs_int s 1 t) F.entry_int_rmul (F.args_int_rmul_2 _ _) (int_rmul_tuple 1 t l its.toArray n dd sl)
        ⟨ho, rfl, ⟨_, ho, rfl⟩, call_meets F.slot_tuple_mul ⟨_, ho, rfl⟩ F.entry_tuple_mul (F.args_tuple_mul_2 _ _) (tuple_once l its.toArray n dd sl t) ⟨ho, ?_⟩⟩)
    exact ⟨.ref l, H, I, rfl, q1 rfl⟩
  · exact op_repT pins s σ H _ _ v u Q I rx ry ⟨l, k, xs, rfl, rfl, hT, hne, by omega, h2, hz, q2 (by omega)⟩
theorem rep_one (x : V) (k : Nat) : (List.replicate k [x]).flatten = List.replicate k x := by
  induction k with
  | zero => rfl
  | succ k ih => rw [List.replicate_succ, List.flatten_cons, ih, List.replicate_succ]; rfl
end Xci

namespace Xci
open PySem L2

section
variable {P : Program} {w : World} {K : PySem.W.Frag} {mg : Str → Option Value} {base : Heap}
abbrev sLawTake : Stmt := top 46
theorem scLawTake : FnScope ["deck", "many", "digit", "one"] ["deck", "many"] (defScope sLawTake) := ⟨rfl, rfl, rfl, by decide +kernel, rfl, by decide +kernel, by decide +kernel⟩

theorem ok_take {f : Addr} {fd : FuncData} (F : Fun K "_law_take" "_law_take" sLawTake f fd) (T : Txt mg) : FnOk P w K mg base CX0 1 f fd ["deck", "many"] spTake := by
  refine F.ok scLawTake (fun vs H Q E h => ?_) (fun cdv A outer s H vs Q E hr h => ?_)
  · obtain ⟨a, l, m, rfl, _⟩ := h
    rfl
  · obtain ⟨a, l, m, rfl, ⟨ns, i, c, n, s, h1, hl, hal, hns, hi0, hil, hc0, hs0, hs1⟩, hm, hm2, k⟩ := h
    refine ⟨_, (pss_cons (ps_asg (pe_op op_add (pe_ix ix_list (pv 0) pe_int (fun _ _ => rfl)) pe_int) (pg_sub (pv 0) pe_int set_list))
      (C8.pss_cut (ps_if (PW.pt (pw_and (pt_cmpR op_eq (pe_ix ix_list (pv 0) pe_int (fun _ _ => rfl)) pe_int (nomark _)) (pw_and1 (pt_cmpR op_lt (pe_ix ix_list (pv 0) pe_int (fun _ _ => rfl)) (pe_callB call_len rfl T.len PySem.boot_len (pa_cons (pe_ix ix_list (pv 0) pe_int (fun _ _ => rfl)) pa_nil)) (nomark _))))) (pss_cons (ps_asg (pe_op op_add (pe_ix ix_list (pv 0) pe_int (fun _ _ => rfl)) pe_int) (pg_sub (pv 0) pe_int set_list))
      (pss_cons (ps_asg (pe_ix ix_list (pe_ix ix_list (pv 0) pe_int (fun _ _ => rfl)) (pe_op op_sub (pe_ix ix_list (pv 0) pe_int (fun _ _ => rfl)) pe_int) (fun _ _ => rfl)) (pg_sub (pv 0) pe_int set_list))
      (pss_one (ps_if (pt_cmpR op_lt (pe_ix ix_list (pv 0) pe_int (fun _ _ => rfl)) (pe_op op_pow pe_int pe_int) (nomark _)) (pss_cons (ps_asg (pe_op op_mod (pe_callTy call_int1 rfl T.int (by decide +kernel) (pa_cons (pe_op op_add (pe_op op_add (pe_op op_mul (pe_ix ix_list (pv 0) pe_int (fun _ _ => rfl)) pe_int) (pe_ix ix_list (pv 0) pe_int (fun _ _ => rfl))) pe_int) pa_nil)) pe_int) (pg_sub (pv 0) pe_int set_list))
      (pss_one (ps_asg pe_int (pg_sub (pv 0) pe_int set_list)))) pss_nil)))) pss_nil)
      (C8.pss_cut (ps_if (pt_cmpR op_gt (pe_ix ix_list (pv 0) pe_int (fun _ _ => rfl)) pe_int (nomark _)) (pss_cons (ps_set (i := 2) scLawTake.nd rfl (by first | exact Or.inl rfl | exact Or.inr rfl) (pe_op op_mod (pe_callTy call_int1 rfl T.int (by decide +kernel) (pa_cons (pe_ix ix_list (pv 0) pe_int (fun _ _ => rfl)) pa_nil)) (pv 1)))
      (pss_cons (ps_asg (pe_op op_fdiv (pe_ix ix_list (pv 0) pe_int (fun _ _ => rfl)) (pv 1)) (pg_sub (pv 0) pe_int set_list))
      (pss_one (ps_ret (pv 2))))) pss_nil)
      (C8.pss_cut (ps_set (i := 3) scLawTake.nd rfl (by first | exact Or.inl rfl | exact Or.inr rfl) (pe_op op_mod (pe_callTy call_int1 rfl T.int (by decide +kernel) (pa_cons (pe_op op_mul (pe_op op_add (pe_op op_add (pe_ix ix_list (pv 0) pe_int (fun _ _ => rfl)) (pe_op op_mul pe_int (pe_ix ix_list (pv 0) pe_int (fun _ _ => rfl)))) pe_int) pe_int) pa_nil)) pe_int))
      (C8.pss_cut (ps_set (i := 3) scLawTake.nd rfl (by first | exact Or.inl rfl | exact Or.inr rfl) (pe_op op_mod (pe_callTy call_int1 rfl T.int (by decide +kernel) (pa_cons (pe_op op_mul (pv 3) (pe_op op_add (pe_op op_fdiv (pv 3) pe_int) pe_int)) pa_nil)) pe_int))
      (C8.pss_cut (ps_set (i := 3) scLawTake.nd rfl (by first | exact Or.inl rfl | exact Or.inr rfl) (pe_op op_mod (pe_callTy call_int1 rfl T.int (by decide +kernel) (pa_cons (pe_op op_mul (pv 3) (pe_op op_add (pe_op op_fdiv (pv 3) pe_int) pe_int)) pa_nil)) pe_int))
      (pss_one (ps_ret (pe_op op_mod (pe_callTy call_int1 rfl T.int (by decide +kernel) (pa_cons (pe_op op_fdiv (pv 3) pe_int) pa_nil)) (pv 1)))))))))), ?_⟩
    refine ⟨_, rfl, a, _, _, _, rfl, rfl, SqL.of h1, at_of (j := 3) rfl rfl, _, _, rfl, rfl, _, rfl, a, _, _, 3, rfl, rfl, h1, rfl, ?_⟩
    generalize hH2 : upd H a _ = H2
    have e2 : H2 a = some (.lst [.ref l, .int i, .int c, .int (n + 1), .int s]) := by rw [← hH2]; exact upd_same
    have o2 : ∀ b, b ≠ a → H2 b = H b := fun b hb => by rw [← hH2]; exact upd_ne hb
    clear hH2
    refine ⟨fun σ' H3 => σ' = [some (.ref a), some (.int m), none, none] ∧ ∃ (i c n s : Int), H3 a = some (.lst [.ref l, .int i, .int c, .int n, .int s]) ∧ 0 ≤ i ∧ i ≤ (ns.length : Int) ∧ 0 ≤ c ∧ 0 ≤ s ∧ s < 2147483647 ∧ ∀ b, b ≠ a → H3 b = H b, ?_, ?_⟩
    · refine ⟨_, rfl, a, _, _, _, rfl, rfl, SqL.of e2, at_of (j := 2) rfl rfl, rfl, _, rfl, ?_⟩
      refine ite2 (fun hc => ?_) (fun _ => ?_)
      · have hc : c = 0 := by simpa using hc
        have hl2 : H2 l = some (.lst (ns.map V.int)) := by rw [o2 l (Ne.symm hal)]; exact hl
        refine ⟨_, rfl, a, _, _, _, rfl, rfl, SqL.of e2, at_of (j := 1) rfl rfl, _, rfl, a, _, _, _, rfl, rfl, SqL.of e2, at_of (j := 0) rfl rfl, _, _, rfl, .inl ⟨_, SqL.of hl2, rfl⟩, _, _, rfl, rfl, _, rfl, ?_⟩
        refine ite2 (fun hi => ?_) (fun _ => ?_)
        · have hi : i < (ns.length : Int) := by simpa using hi
          refine ⟨_, rfl, a, _, _, _, rfl, rfl, SqL.of e2, at_of (j := 1) rfl rfl, _, _, rfl, rfl, _, rfl, a, _, _, 1, rfl, rfl, e2, rfl, ?_⟩
          generalize hH3 : upd H2 a _ = H3
          have e3 : H3 a = some (.lst [.ref l, .int (i + 1), .int c, .int (n + 1), .int s]) := by rw [← hH3]; exact upd_same
          have o3 : ∀ b, b ≠ a → H3 b = H b := fun b hb => by rw [← hH3, upd_ne hb]; exact o2 b hb
          clear hH3
          have hl3 : H3 l = some (.lst (ns.map V.int)) := by rw [o3 l (Ne.symm hal)]; exact hl
          obtain ⟨j, ej⟩ : ∃ j : Nat, i = (j : Int) := ⟨i.toNat, by omega⟩
          have hj : j < ns.length := by omega
          have hnz : 0 ≤ ns[j] := hns _ (List.getElem_mem hj)
          refine ⟨_, rfl, a, _, _, _, rfl, rfl, SqL.of e3, at_of (j := 0) rfl rfl, _, rfl, a, _, _, _, rfl, rfl, SqL.of e3, at_of (j := 1) rfl rfl, _, _, rfl, rfl, l, _, _, _, rfl, rfl, SqL.of hl3, at_of (j := j) (v := V.int ns[j]) (by omega) (by rw [List.getElem?_map, List.getElem?_eq_getElem hj]; rfl), _, rfl, a, _, _, 2, rfl, rfl, e3, rfl, ?_⟩
          generalize hH4 : upd H3 a _ = H4
          generalize hz : ns[j] = z at *
          have e4 : H4 a = some (.lst [.ref l, .int (i + 1), .int z, .int (n + 1), .int s]) := by rw [← hH4]; exact upd_same
          have o4 : ∀ b, b ≠ a → H4 b = H b := fun b hb => by rw [← hH4, upd_ne hb]; exact o3 b hb
          clear hH4
          refine ⟨_, rfl, a, _, _, _, rfl, rfl, SqL.of e4, at_of (j := 2) rfl rfl, _, _, rfl, rfl, ⟨by decide, by decide, by decide⟩, _, _, rfl, rfl, _, rfl, ?_⟩
          refine ite2 (fun _ => ?_) (fun _ => ?_)
          · refine ⟨_, rfl, a, _, _, _, rfl, rfl, SqL.of e4, at_of (j := 4) rfl rfl, _, _, rfl, rfl, .inr ⟨by decide, by decide⟩, _, rfl, a, _, _, _, rfl, rfl, SqL.of e4, at_of (j := 2) rfl rfl, _, _, rfl, rfl, _, _, rfl, rfl, .inl ⟨_, rfl, _, _, rfl, rfl, (by show (0 : Int) < 2147483647; decide), _, rfl, a, _, _, 4, rfl, rfl, e4, rfl, ?_⟩⟩
            refine ⟨_, rfl, a, _, _, 2, rfl, rfl, upd_same, rfl, rfl, ?_⟩
            obtain ⟨b1, b2⟩ := mod_bd (s * 69621 + z + 1) (m := 2147483647) (by decide)
            exact ⟨i + 1, 0, n + 1, _, upd_same, by omega, by omega, by decide, b1, b2, fun b hb => by rw [upd_ne hb, upd_ne hb]; exact o4 b hb⟩
          · exact ⟨rfl, i + 1, z, n + 1, s, e4, by omega, by omega, hnz, hs0, hs1, o4⟩
        · exact ⟨rfl, i, c, n + 1, s, e2, hi0, hil, hc0, hs0, hs1, o2⟩
      · exact ⟨rfl, i, c, n + 1, s, e2, hi0, hil, hc0, hs0, hs1, o2⟩
    · rintro σ' H3 ⟨rfl, i, c, n, s, e3, hi0, hil, hc0, hs0, hs1, o3⟩
      have fin : ∀ (d i c n s : Int) (H' : Hp), 0 ≤ d → d < m → H' a = some (.lst [.ref l, .int i, .int c, .int n, .int s]) → 0 ≤ i → i ≤ (ns.length : Int) → 0 ≤ c → 0 ≤ s → s < 2147483647 → (∀ b, b ≠ a → H' b = H b) → Q (.int d) H' :=
        fun d i c n s H' d0 d1 e i0 i1 c0 s0 s1 o => k d H' d0 d1 ⟨ns, i, c, n, s, e, by rw [o l (Ne.symm hal)]; exact hl, hal, hns, i0, i1, c0, s0, s1⟩ (fun b u h hb => by rw [o b hb]; exact h) o
      refine ⟨fun σ' H4 => σ' = [some (.ref a), some (.int m), none, none] ∧ H4 = H3, ?_, ?_⟩
      · refine ⟨_, rfl, a, _, _, _, rfl, rfl, SqL.of e3, at_of (j := 2) rfl rfl, _, _, rfl, rfl, _, rfl, ?_⟩
        refine ite2 (fun _ => ?_) (fun _ => ⟨rfl, rfl⟩)
        obtain ⟨b1, b2⟩ := mod_bd c hm
        refine ⟨_, rfl, a, _, _, _, rfl, rfl, SqL.of e3, at_of (j := 2) rfl rfl, .inl ⟨_, rfl, _, rfl, _, _, rfl, rfl, hm, ?_⟩⟩
        refine ⟨_, rfl, a, _, _, _, rfl, rfl, SqL.of e3, at_of (j := 2) rfl rfl, _, rfl, _, _, rfl, rfl, ⟨hm, hm2⟩, _, rfl, a, _, _, 2, rfl, rfl, e3, rfl, _, rfl, ?_⟩
        exact fin _ i (c / m) n s _ b1 b2 upd_same hi0 hil (Int.ediv_nonneg hc0 (by omega)) hs0 hs1 fun b hb => by rw [upd_ne hb]; exact o3 b hb
      · rintro σ' H4 ⟨rfl, rfl⟩
        have bd : ∀ x : Int, 0 ≤ x % 2147483647 ∧ x % 2147483647 < 2147483647 := fun x => mod_bd x (by decide)
        have bd2 : ∀ x : Int, 0 ≤ x % 2147483399 ∧ x % 2147483399 < 2147483399 := fun x => mod_bd x (by decide)
        refine ⟨fun σ' H5 => ∃ x : Int, 0 ≤ x ∧ x < 2147483647 ∧ σ' = [some (.ref a), some (.int m), none, some (.int x)] ∧ H5 = H4, ?_, ?_⟩
        · refine ⟨_, rfl, a, _, _, _, rfl, rfl, SqL.of e3, at_of (j := 4) rfl rfl, _, rfl, a, _, _, _, rfl, rfl, SqL.of e3, at_of (j := 3) rfl rfl, _, _, rfl, rfl, .inl ⟨by decide, by decide⟩, _, _, rfl, rfl, _, _, rfl, rfl, _, _, rfl, rfl, .inr ⟨by decide, by decide⟩, .inl ⟨_, rfl, _, _, rfl, rfl, (by show (0 : Int) < 2147483647; decide), ?_⟩⟩
          exact ⟨_, (bd _).1, (bd _).2, rfl, rfl⟩
        rintro σ' H5 ⟨x1, q1, q1', rfl, rfl⟩
        refine ⟨fun σ' H5' => ∃ x : Int, 0 ≤ x ∧ x < 2147483647 ∧ σ' = [some (.ref a), some (.int m), none, some (.int x)] ∧ H5' = H5, ?_, ?_⟩
        · refine ⟨_, rfl, _, rfl, _, _, rfl, rfl, ⟨by decide, by decide⟩, _, _, rfl, rfl, _, _, rfl, rfl, .inl ⟨by omega, by omega⟩, .inl ⟨_, rfl, _, _, rfl, rfl, (by show (0 : Int) < 2147483647; decide), ?_⟩⟩
          exact ⟨_, (bd _).1, (bd _).2, rfl, rfl⟩
        rintro σ' H6 ⟨x2, q2, q2', rfl, rfl⟩
        refine ⟨fun σ' H5' => ∃ x : Int, σ' = [some (.ref a), some (.int m), none, some (.int x)] ∧ H5' = H6, ?_, ?_⟩
        · refine ⟨_, rfl, _, rfl, _, _, rfl, rfl, ⟨by decide, by decide⟩, _, _, rfl, rfl, _, _, rfl, rfl, .inl ⟨by omega, by omega⟩, .inl ⟨_, rfl, _, _, rfl, rfl, (by show (0 : Int) < 2147483399; decide), ?_⟩⟩
          exact ⟨_, rfl, rfl⟩
        rintro σ' H7 ⟨x3, rfl, rfl⟩
        refine ⟨_, rfl, _, _, rfl, rfl, ⟨by decide, by decide⟩, .inl ⟨_, rfl, _, rfl, _, _, rfl, rfl, hm, ?_⟩⟩
        obtain ⟨b1, b2⟩ := mod_bd (x3 / 32) hm
        exact fin _ i c n s _ b1 b2 e3 hi0 hil hc0 hs0 hs1 o3
end
end Xci

namespace Xci
open PySem L2

section
variable {P : Program} {w : World} {K : PySem.W.Frag} {mg : Str → Option Value} {base : Heap}
abbrev sLawDeck : Stmt := top 45
theorem scLawDeck : FnScope ["script", "state", "cell"] ["script"] (defScope sLawDeck) := ⟨rfl, rfl, rfl, by decide +kernel, rfl, by decide +kernel, by decide +kernel⟩

theorem ok_deck {f : Addr} {fd : FuncData} (F : Fun K "_law_deck" "_law_deck" sLawDeck f fd) (T : Txt mg) : FnOk P w K mg base CX0 1 f fd ["script"] (spDeck K) := by
  refine F.ok scLawDeck (fun vs H Q E h => ?_) (fun cdv A outer s H vs Q E hr h => ?_)
  · obtain ⟨a, m, rfl, _⟩ := h
    rfl
  · obtain ⟨a, ns, rfl, hS, hlen, k⟩ := h
    refine ⟨_, (pss_cons (ps_set (i := 1) scLawDeck.nd rfl (by first | exact Or.inl rfl | exact Or.inr rfl) (pe_op op_add (pe_callB call_len rfl T.len PySem.boot_len (pa_cons (pv 0) pa_nil)) pe_int))
      (pss_cons (ps_for PassesOwn.never rfl (pi_list (pe_slice sl_list (pv 0) po_none (po_some pe_int))) (pg_name (i := 2) scLawDeck.nd rfl (by first | exact Or.inl rfl | exact Or.inr rfl)) (pss_one (ps_set (i := 1) scLawDeck.nd rfl (by first | exact Or.inl rfl | exact Or.inr rfl) (pe_op op_mod (pe_callTy call_int1 rfl T.int (by decide +kernel) (pa_cons (pe_op op_add (pe_op op_add (pe_op op_mul (pv 1) pe_int) (pe_op op_mul (pe_callTy call_int1 rfl T.int (by decide +kernel) (pa_cons (pv 2) pa_nil)) pe_int)) pe_int) pa_nil)) pe_int))))
      (pss_one (ps_ret (pe_lst (pa_cons (pe_lc (own := [("cell", 2)]) rfl scLawDeck.nd (pi_list (pe_slice sl_list (pv 0) po_none (po_some pe_int))) (blkOk_by (N := ["script", "state", "cell"]) (sc := defScope sLawDeck) (by decide +kernel)) (fun _ _ _ _ _ => (pg_name (i := 2) scLawDeck.nd rfl (by first | exact Or.inl rfl | exact Or.inr rfl))) (fun _ _ _ _ _ => pts_nil) (fun _ _ _ _ _ => (pe_callB call_abs rfl T.abs (by decide +kernel) (pa_cons (pe_callTy call_int1 rfl T.int (by decide +kernel) (pa_cons (pv 2) pa_nil)) pa_nil)))) (pa_cons pe_int (pa_cons pe_int (pa_cons pe_int (pa_cons (pv 1) pa_nil)))))))))), ?_⟩
    refine ⟨_, rfl, _, _, rfl, .inl ⟨_, hS, rfl⟩, _, _, rfl, rfl, ?_⟩
    refine ⟨_, rfl, _, rfl, _, _, rfl, hS, fun p hp => ⟨_, rfl, ⟨_, SqL.of upd_same⟩, ?_⟩⟩
    have sp0 : Same H (upd H p (.lst (cutV (ns.map V.int) none (some 63)))) := Same.new hp
    generalize hH1 : upd H p (.lst (cutV (ns.map V.int) none (some 63))) = H1 at sp0
    have e1 : H1 p = some (.lst ((ns.take 63).map V.int)) := by rw [← hH1, cut63]; exact upd_same
    clear hH1
    refine for_list (K := K) (a := p) (xs := (ns.take 63).map V.int) (fun i σ H2 => H2 = H1 ∧ ∃ (z : Int) (v : Option V), σ = [some (.ref a), some (.int z), v] ∧ (0 ≤ z ∧ z < 2147483647 ∨ z = (ns.length : Int) + 1)) ⟨rfl, _, none, rfl, .inr (by simp)⟩ (fun i σ H2 _ ⟨e, _⟩ => by rw [e]; exact SqL.of e1) ?_ ?_
    · rintro i y σ H2 hi ⟨rfl, z, v, rfl, hz⟩
      obtain ⟨c, hc, rfl⟩ := int_of hi
      refine ⟨_, rfl, _, _, rfl, rfl, .inr ⟨by decide, by decide⟩, _, rfl, .inl ⟨_, rfl, _, _, rfl, rfl, .inr ⟨by decide, by decide⟩, _, _, rfl, rfl, _, _, rfl, rfl, .inl ⟨_, rfl, _, _, rfl, rfl, (by show (0 : Int) < 2147483647; decide), ?_⟩⟩⟩
      obtain ⟨b1, b2⟩ := mod_bd (z * 48271 + c * 69621 + 7) (m := 2147483647) (by decide)
      exact ⟨rfl, _, some (.int c), rfl, .inl ⟨b1, b2⟩⟩
    · rintro σ H2 ⟨rfl, z, v, rfl, hz⟩
      have hS2 : SqL K H2 a (ns.map V.int) := sp0.seq hS
      refine ⟨_, rfl, _, rfl, _, _, rfl, hS2, fun p2 hp2 => ⟨_, rfl, ⟨_, SqL.of upd_same⟩, ?_⟩⟩
      intro D hD
      have sp1 : Same H2 (upd H2 p2 (.lst (cutV (ns.map V.int) none (some 63)))) := Same.new hp2
      generalize hH3 : upd H2 p2 (.lst (cutV (ns.map V.int) none (some 63))) = H3 at sp1 hD
      have e3 : H3 p2 = some (.lst ((ns.take 63).map V.int)) := by rw [← hH3, cut63]; exact upd_same
      clear hH3
      have nD : p2 ≠ D := ne_of_none e3 hD
      refine lc_list (K := K) (a := p2) (xs := (ns.take 63).map V.int) (fun i H4 => ∃ zs : List Int, Same H3 H4 ∧ H4 D = some (.lst (zs.map V.int)) ∧ zs.length = i ∧ ∀ z ∈ zs, 0 ≤ z) ⟨[], Same.new hD, upd_same, rfl, by simp⟩ (fun i H4 _ ⟨_, e, _⟩ => SqL.of (e _ _ e3)) ?_ ?_
      · rintro i y H4 hi ⟨zs, sm, e4, hz4, hpos⟩
        obtain ⟨c, hc, rfl⟩ := int_of hi
        have hi63 : i < 63 := by
          have q := (List.getElem?_eq_some_iff.mp hc).1
          rw [List.length_take] at q
          omega
        refine ⟨rfl, _, rfl, .inl ⟨_, rfl, _, rfl, _, e4, by rw [List.length_map, hz4]; exact small1000 (by omega), ?_⟩⟩
        refine ⟨zs ++ [if c < 0 then -c else c], fun b o h => ?_, by rw [upd_same, List.map_append]; rfl, by rw [List.length_append, hz4]; rfl, fun z hz => ?_⟩
        · rw [upd_ne (ne_of_none h hD)]; exact sm b o h
        · rcases List.mem_append.mp hz with q | q
          · exact hpos z q
          · rw [List.mem_singleton.mp q]
            split <;> omega
      · rintro H4 ⟨zs, sm, e4, hz4, hpos⟩
        refine ⟨_, rfl, (by show 5 ≤ sizeLine; decide), fun q hq => ?_⟩
        refine k q D _ ⟨zs, 0, 0, 0, z, upd_same, ?_, ?_, hpos, by omega, by omega, by omega, by omega, by omega⟩ ?_
        · rw [upd_ne (ne_of_none e4 hq)]; exact e4
        · exact (ne_of_none e4 hq).symm
        · exact fun b o h => by rw [upd_ne (ne_of_none (sm _ _ (sp1 _ _ (sp0 _ _ h))) hq)]; exact sm _ _ (sp1 _ _ (sp0 _ _ h))
end
end Xci

namespace Xci
open PySem L2

section
variable {P : Program} {w : World} {K : PySem.W.Frag} {mg : Str → Option Value} {base : Heap}
abbrev sLawMixed : Stmt := top 47
theorem scLawMixed : FnScope ["deck", "things", "left", "found", "turn"] ["deck", "things"] (defScope sLawMixed) := ⟨rfl, rfl, rfl, by decide +kernel, rfl, by decide +kernel, by decide +kernel⟩

theorem ok_mixed {f : Addr} {fd : FuncData} (F : Fun K "_law_mixed" "_law_mixed" sLawMixed f fd) (T : Txt mg) (HT : Has P w K mg base "_law_take" ["deck", "many"] 1 spTake) : FnOk P w K mg base CX0 2 f fd ["deck", "things"] (spMixed K) := by
  refine F.ok scLawMixed (fun vs H Q E h => ?_) (fun cdv A outer s H vs Q E hr h => ?_)
  · obtain ⟨a, ld, p, xs, rfl, _⟩ := h
    rfl
  · obtain ⟨a, ld, p, xs, rfl, hd, hS, hlen, k⟩ := h
    refine ⟨_, (pss_cons (ps_set (i := 2) scLawMixed.nd rfl (by first | exact Or.inl rfl | exact Or.inr rfl) (pe_callTy call_list_of rfl T.list (by decide +kernel) (pa_cons (pv 1) pa_nil)))
      (pss_cons (ps_set (i := 3) scLawMixed.nd rfl (by first | exact Or.inl rfl | exact Or.inr rfl) (pe_lst pa_nil))
      (pss_cons (ps_for PassesOwn.never rfl (pi_range1 rfl T.range (pa_cons (pe_callB call_len rfl T.len PySem.boot_len (pa_cons (pv 1) pa_nil)) pa_nil)) (pg_name (i := 4) scLawMixed.nd rfl (by first | exact Or.inl rfl | exact Or.inr rfl)) (pss_one (ps_expr (pe_bm PySem.F.plainAttrs_list PySem.F.slot_list_append PySem.F.type_list_append mt_append (pv 3) (pa_cons (pe_bm PySem.F.plainAttrs_list PySem.F.slot_list_pop PySem.F.type_list_pop mt_popAt (pv 2) (pa_cons (pe_callH HT (hr.mono (by decide)) rfl (pa_cons (pv 0) (pa_cons (pe_callB call_len rfl T.len PySem.boot_len (pa_cons (pv 2) pa_nil)) pa_nil))) pa_nil)) pa_nil)))))
      (pss_one (ps_ret (pv 3)))))), ?_⟩
    refine ⟨_, rfl, p, xs, rfl, hS, fun l hl => ?_⟩
    refine ⟨Nat.zero_le _, fun q hq => ?_⟩
    have d1 : Deck (upd (upd H l (.lst xs)) q (.lst [])) a ld := (hd.keep (Same.new hl)).keep (Same.new hq)
    have f1 : Fr a H (upd (upd H l (.lst xs)) q (.lst [])) := (Fr.new hl).trans (Fr.new hq)
    have nl : l ≠ a := hd.ne hl
    have hq0 : H q = Option.none := (Same.new hl).free hq
    have nq : q ≠ a := hd.ne hq0
    have ml : l ≠ ld := hd.ne' hl
    have mq : q ≠ ld := hd.ne' hq0
    have nlq : l ≠ q := ne_of_none upd_same hq
    have el : (upd (upd H l (.lst xs)) q (.lst [])) l = some (.lst xs) := by rw [upd_ne nlq]; exact upd_same
    have eq : (upd (upd H l (.lst xs)) q (.lst [])) q = some (.lst []) := upd_same
    have hS1 : Sq K (upd (upd H l (.lst xs)) q (.lst [])) p xs := by
      rcases hS with h | h
      · exact .inl (Same.seq (Same.new hq) (Same.seq (Same.new hl) h))
      · exact .inr (sqT_same (sqT_same h (Same.new hl)) (Same.new hq))
    generalize upd (upd H l (.lst xs)) q (.lst []) = H1 at *
    refine ⟨_, rfl, _, xs.length, rfl, ?_, _, rfl, by omega, by omega, ?_⟩
    · exact hS1.elim (fun h => .inl ⟨_, h, rfl⟩) (fun h => .inr ⟨_, h, rfl⟩)
    refine for_range (n := (xs.length : Int).toNat) (fun i σ H2 => ∃ (us ys : List V) (v : Option V), σ = [some (.ref a), some (.ref p), some (.ref l), some (.ref q), v] ∧ H2 l = some (.lst us) ∧ H2 q = some (.lst ys) ∧ Deck H2 a ld ∧ (∀ b o, H b = some o → b ≠ a → H2 b = some o) ∧ (ys ++ us).Perm xs ∧ ys.length = i)
      ⟨xs, [], none, rfl, el, eq, d1, f1, List.Perm.refl _, rfl⟩ ?_ ?_
    · rintro i σ H2 hi ⟨us, ys, v, rfl, e1, e2, hd2, f2, pm, hy⟩
      have hlen2 := pm.length_eq
      rw [List.length_append] at hlen2
      have hus : 0 < us.length := by omega
      refine ⟨_, rfl, .inl ⟨rfl, _, SqL.of e2⟩, _, rfl, .inl ⟨rfl, _, SqL.of e1⟩, _, rfl, _, rfl, _, us.length, rfl, .inl ⟨_, SqL.of e1, rfl⟩, a, ld, _, rfl, hd2, by omega, by omega, fun d H3 d0 d1 hd3 f3 _ => ?_⟩
      obtain ⟨j, ej⟩ : ∃ j : Nat, d = (j : Int) := ⟨d.toNat, by omega⟩
      subst ej
      have hj : j < us.length := by omega
      have e1' : H3 l = some (.lst us) := f3 _ _ e1 nl
      have e2' : H3 q = some (.lst ys) := f3 _ _ e2 nq
      have hx : us[j]? = some us[j] := List.getElem?_eq_getElem hj
      refine ⟨l, us, _, j, us[j], rfl, rfl, e1', by omega, by omega, ?_, hx, ?_⟩
      · unfold seqIndex?
        simp
        try omega
      refine ⟨q, ys, _, rfl, rfl, by rw [upd_ne nlq.symm]; exact e2', small1000 (by omega), ?_⟩
      refine ⟨us.eraseIdx j, ys ++ [us[j]], _, rfl, by rw [upd_ne nlq]; exact upd_same, upd_same, ?_, fun b o h n => ?_, ?_, by rw [List.length_append, hy]; rfl⟩
      · exact (hd3.put nl ml).put nq mq
      · have nbl : b ≠ l := ne_of_none h hl
        have nbq : b ≠ q := ne_of_none h hq0
        rw [upd_ne nbq, upd_ne nbl]
        exact f3 _ _ (f2 _ _ h n) n
      · have p1 := perm_erase hx
        have p2 : (ys ++ [us[j]] ++ us.eraseIdx j).Perm (ys ++ us) := by
          rw [List.append_assoc]
          exact (List.perm_append_comm.trans p1).append_left ys
        exact p2.trans pm
    · rintro σ H2 ⟨us, ys, v, rfl, e1, e2, hd2, f2, pm, hy⟩
      have hlen2 := pm.length_eq
      rw [List.length_append] at hlen2
      have hus : us = [] := List.eq_nil_of_length_eq_zero (by omega)
      subst hus
      rw [List.append_nil] at pm
      exact ⟨_, rfl, k q ys H2 pm e2 hq0 hd2 f2⟩
end
end Xci

namespace Xci
open PySem L2

section
variable {P : Program} {w : World} {K : PySem.W.Frag} {mg : Str → Option Value} {base : Heap}
abbrev sLawWord : Stmt := top 48
theorem scLawWord : FnScope ["deck", "size", "sign"] ["deck"] (defScope sLawWord) := ⟨rfl, rfl, rfl, by decide +kernel, rfl, by decide +kernel, by decide +kernel⟩

theorem join_letters (cs : List Nat) : (PySem.Txt.join (PySem.Str.ofString "") (cs.map fun c => (⟨#[c]⟩ : Str))).cps.toList = cs := by
  show (Builtin.Str.glued (PySem.Str.ofString "") _).cps.toList = _
  rw [StrLaws.glued_eq_join]
  induction cs with
  | nil => rfl
  | cons c r ih =>
    cases r with
    | nil => rfl
    | cons d r =>
      show ((⟨#[c]⟩ : Str) ++ PySem.Str.ofString "" ++ PySem.Str.join (PySem.Str.ofString "") ((d :: r).map fun c => (⟨#[c]⟩ : Str))).cps.toList = _
      have e : ∀ a b : Str, (a ++ b).cps = a.cps ++ b.cps := fun _ _ => rfl
      rw [e, e, Array.toList_append, Array.toList_append, ih]
      rfl
theorem sum_ones (cs : List Nat) : ((cs.map fun c => (⟨#[c]⟩ : Str)).map (·.length)).sum = cs.length := by
  induction cs with
  | nil => rfl
  | cons c r ih =>
    rw [List.map_cons, List.map_cons, List.sum_cons, ih, List.length_cons]
    have : (⟨#[c]⟩ : Str).length = 1 := rfl
    rw [this]
    omega
theorem letter_at {j : Nat} (h : j < 26) : ("abcdefghijklmnopqrstuvwxyz" : Str).cps.toList[j]? = some (97 + j) := by
  have : ∀ j : Fin 26, ("abcdefghijklmnopqrstuvwxyz" : Str).cps.toList[j.val]? = some (97 + j.val) := by decide +kernel
  exact this ⟨j, h⟩
theorem ok_word {f : Addr} {fd : FuncData} (F : Fun K "_law_word" "_law_word" sLawWord f fd) (T : Txt mg) (HT : Has P w K mg base "_law_take" ["deck", "many"] 1 spTake) : FnOk P w K mg base CX0 2 f fd ["deck"] spWord := by
  refine F.ok scLawWord (fun vs H Q E h => ?_) (fun cdv A outer s H vs Q E hr h => ?_)
  · obtain ⟨a, ld, rfl, _⟩ := h
    rfl
  · obtain ⟨a, ld, rfl, hd, k⟩ := h
    refine ⟨_, (pss_cons (ps_set (i := 1) scLawWord.nd rfl (by first | exact Or.inl rfl | exact Or.inr rfl) (pe_op op_add pe_int (pe_callH HT (hr.mono (by decide)) rfl (pa_cons (pv 0) (pa_cons (pe_op op_add pe_int (pe_op op_mul pe_int (pe_callTy call_int1 rfl T.int (by decide +kernel) (pa_cons (pe_cmpR op_eq (pe_callH HT (hr.mono (by decide)) rfl (pa_cons (pv 0) (pa_cons pe_int pa_nil))) pe_int (nomark _)) pa_nil)))) pa_nil)))))
      (pss_one (ps_ret (pe_bm PySem.F.plainAttrs_str PySem.F.slot_str_join PySem.F.type_str_join mt_join pe_str (pa_cons (pe_lc (own := [("sign", 2)]) rfl scLawWord.nd (pi_range1 rfl T.range (pa_cons (pv 1) pa_nil)) (blkOk_by (N := ["deck", "size", "sign"]) (sc := defScope sLawWord) (by decide +kernel)) (fun _ _ _ _ _ => (pg_name (i := 2) scLawWord.nd rfl (by first | exact Or.inl rfl | exact Or.inr rfl))) (fun _ _ _ _ _ => pts_nil) (fun _ _ _ _ _ => (pe_ix ix_str pe_str (pe_callH HT (hr.mono (by decide)) rfl (pa_cons (pv 0) (pa_cons pe_int pa_nil))) (fun _ _ => rfl)))) pa_nil))))), ?_⟩
    refine ⟨_, rfl, _, rfl, a, ld, _, rfl, hd, by decide, by decide, fun d0 H1 _ _ hd1 f1 _ => ?_⟩
    refine ⟨rfl, .inr ⟨_, rfl, _, _, rfl, rfl, .inl ⟨by decide, by decide⟩, _, _, rfl, rfl, ?_⟩⟩
    have hb : ∀ b : Bool, 2 ≤ (2 + 6 * (if b = true then 1 else 0) : Int) ∧ (2 + 6 * (if b = true then 1 else 0) : Int) ≤ 8 := by decide
    obtain ⟨m0, m1⟩ := hb (decide (V.int d0 = V.int 0))
    refine ⟨a, ld, _, rfl, hd1, Int.lt_of_lt_of_le (by decide) m0, Int.lt_of_le_of_lt m1 (by decide), fun d1 H2 d10 d11 hd2 f2 _ => ?_⟩
    have d18 : d1 < 8 := Int.lt_of_lt_of_le d11 m1
    refine ⟨_, _, rfl, rfl, ?_⟩
    have fr : Fr a H H2 := f1.trans f2
    refine ⟨rfl, _, rfl, _, rfl, by omega, by omega, fun D hD => ?_⟩
    have hD0 := hd2.free fr hD
    refine lc_range (n := (1 + d1).toNat) (fun i H4 => ∃ cs : List Nat, Deck H4 a ld ∧ Fr a H H4 ∧ H4 D = some (.lst ((cs.map fun c => (⟨#[c]⟩ : Str)).map V.str)) ∧ cs.length = i ∧ ∀ c ∈ cs, 97 ≤ c ∧ c ≤ 122) ⟨[], hd2.keep (Same.new hD), fr.trans (Fr.new hD), upd_same, rfl, by simp⟩ ?_ ?_
    · rintro i H4 hi ⟨cs, hd4, f4, e4, hl, hz⟩
      refine ⟨rfl, _, rfl, a, ld, _, rfl, hd4, by decide, by decide, fun d H5 d0 d1 hd5 f5 _ => ?_⟩
      obtain ⟨j, ej⟩ : ∃ j : Nat, d = (j : Int) := ⟨d.toNat, by omega⟩
      subst ej
      have hj : j < 26 := by omega
      have nD := hd.ne hD0
      refine ⟨_, _, _, rfl, rfl, by decide +kernel, atI_nat (letter_at hj), _, f5 _ _ e4 nD, by rw [List.length_map, List.length_map]; exact small1000 (by omega), ?_⟩
      refine ⟨cs ++ [97 + j], hd5.put nD (hd.ne' hD0), fun b o h n => ?_, by rw [upd_same, List.map_append, List.map_append]; rfl, by rw [List.length_append, hl]; rfl, fun c hc => ?_⟩
      · rw [upd_ne (ne_of_none h hD0)]; exact f5 _ _ (f4 _ _ h n) n
      · rcases List.mem_append.mp hc with q | q
        · exact hz c q
        · rw [List.mem_singleton.mp q]; omega
    · rintro H4 ⟨cs, hd4, f4, e4, hl, hz⟩
      refine ⟨_, D, _, rfl, rfl, .inl (SqL.of e4), ?_, ?_⟩
      · rw [sum_ones, List.length_map]
        have : (Str.ofString "").length = 0 := by decide
        rw [this]
        omega
      · refine k _ H4 ?_ hd4 f4
        have el := join_letters cs
        have ez : (PySem.Txt.join (PySem.Str.ofString "") (cs.map fun c => (⟨#[c]⟩ : Str))).length = cs.length := by
          show (PySem.Txt.join (PySem.Str.ofString "") (cs.map fun c => (⟨#[c]⟩ : Str))).cps.size = _
          rw [← Array.length_toList, el]
        exact ⟨by rw [ez]; omega, by rw [ez]; omega, fun c hc => hz c (by rw [el] at hc; exact hc)⟩
end
end Xci

namespace Xci
open PySem L2

section
variable {P : Program} {w : World} {K : PySem.W.Frag} {mg : Str → Option Value} {base : Heap}
abbrev sLawLots : Stmt := top 50
theorem scLawLots : FnScope ["items", "found", "item", "lot"] ["items"] (defScope sLawLots) := ⟨rfl, rfl, rfl, by decide +kernel, rfl, by decide +kernel, by decide +kernel⟩

theorem ok_lots {f : Addr} {fd : FuncData} (F : Fun K "_law_lots" "_law_lots" sLawLots f fd) : FnOk P w K mg base CX0 1 f fd ["items"] (spLots K) := by
  refine F.ok scLawLots (fun vs H Q E h => ?_) (fun cdv A outer s H vs Q E hr h => ?_)
  · obtain ⟨p, ns, rfl, _⟩ := h
    rfl
  · obtain ⟨p, ns, rfl, hS, hlen, k⟩ := h
    refine ⟨_, (pss_cons (ps_set (i := 1) scLawLots.nd rfl (by first | exact Or.inl rfl | exact Or.inr rfl) (pe_lst (pa_cons (pe_tup pa_nil) pa_nil)))
      (pss_cons (ps_for PassesOwn.never rfl (pi_tup (pv 0)) (pg_name (i := 2) scLawLots.nd rfl (by first | exact Or.inl rfl | exact Or.inr rfl)) (pss_one (ps_set (i := 1) scLawLots.nd rfl (by first | exact Or.inl rfl | exact Or.inr rfl) (pe_op op_cat (pv 1) (pe_lc (own := [("lot", 3)]) rfl scLawLots.nd (pi_list (pv 1)) (blkOk_by (N := ["items", "found", "item", "lot"]) (sc := defScope sLawLots) (by decide +kernel)) (fun _ _ _ _ _ => (pg_name (i := 3) scLawLots.nd rfl (by first | exact Or.inl rfl | exact Or.inr rfl))) (fun _ _ _ _ _ => pts_nil) (fun _ _ _ _ _ => (pe_op (show OpR _ _ (rCatA K) from op_catA) (pv 3) (pe_tup (pa_cons (pv 2) pa_nil)))))))))
      (pss_one (ps_ret (pv 1))))), ?_⟩
    refine ⟨Nat.zero_le _, fun t ht => ⟨(by show 1 ≤ sizeLine; decide), fun q hq => ?_⟩⟩
    have s0 : Same H (upd (upd H t (.tup [])) q (.lst [.ref t])) := (Same.new ht).trans (Same.new hq)
    have et : (upd (upd H t (.tup [])) q (.lst [.ref t])) t = some (.tup []) := by rw [upd_ne (ne_of_none upd_same hq)]; exact upd_same
    have hq0 : H q = Option.none := (Same.new ht).free hq
    have eq : (upd (upd H t (.tup [])) q (.lst [.ref t])) q = some (.lst [.ref t]) := upd_same
    generalize upd (upd H t (.tup [])) q (.lst [.ref t]) = H1 at *
    refine ⟨_, rfl, p, rfl, ⟨_, sqT_same hS s0⟩, for_tup (K := K) (a := p) (xs := ns.map V.int) (fun i σ H2 => ∃ (u : Addr) (ys : List V) (v : Option V), σ = [some (.ref p), some (.ref u), v, none] ∧ Same H H2 ∧ H u = Option.none ∧ H2 u = some (.lst ys) ∧ Mks H2 ys (lots (ns.take i)))
      ⟨q, [.ref t], none, rfl, s0, hq0, eq, Paired.one ⟨t, rfl, et⟩⟩ (fun i σ H2 _ ⟨_, _, _, _, e, _⟩ => sqT_same hS e) ?_ ?_⟩
    · rintro i y σ H2 hi ⟨u, ys, v, rfl, sm, hu0, eu, hm⟩
      obtain ⟨x, hx, rfl⟩ := int_of hi
      have hlt := (List.getElem?_eq_some_iff.mp hx).1
      have hys : ys.length ≤ 64 := by
        have e := Paired.length hm
        rw [lots_len, List.length_take] at e
        have : 2 ^ min i ns.length ≤ 2 ^ 6 := Nat.pow_le_pow_right (by decide) (by omega)
        omega
      refine ⟨_, rfl, _, rfl, u, rfl, ⟨_, SqL.of eu⟩, fun D hD => ?_⟩
      have hD0 : H D = Option.none := sm.free hD
      refine lc_list (K := K) (a := u) (xs := ys) (fun j H4 => ∃ zs : List V, Same H2 H4 ∧ H4 D = some (.lst zs) ∧ Mks H4 zs (((lots (ns.take i)).take j).map (· ++ [x]))) ⟨[], Same.new hD, upd_same, .nil⟩ (fun j H4 _ ⟨_, e, _⟩ => SqL.of (e _ _ eu)) ?_ ?_
      · rintro j lot H4 hj ⟨zs, sm4, e4, m4⟩
        obtain ⟨ms, hms, tl⟩ := Paired.get hm hj
        obtain ⟨tp, rfl, htp⟩ := tl
        have htp4 := sm4 _ _ htp
        have hjl := (List.getElem?_eq_some_iff.mp hj).1
        have hzl : zs.length ≤ 64 := by
          have e := Paired.length m4
          rw [List.length_map, List.length_take] at e
          omega
        have et : ((lots (ns.take i)).take (j + 1)).map (· ++ [x]) = ((lots (ns.take i)).take j).map (· ++ [x]) ++ [ms ++ [x]] := by
          rw [List.take_add_one, hms, List.map_append]
          rfl
        refine ⟨rfl, _, rfl, _, rfl, (by show 1 ≤ sizeLine; decide), fun r hr => ?_⟩
        have e5 : (upd H4 r (.tup [.int x])) r = some (.tup [.int x]) := upd_same
        have sm5 : Same H4 (upd H4 r (.tup [.int x])) := Same.new hr
        generalize upd H4 r (.tup [.int x]) = H5 at *
        have nDr : ∀ {c : Addr} {o : HO}, H2 c = some o → c ≠ D := fun h => ne_of_none h hD
        have mkl : ms.length ≤ 64 := by
          have q := (lots_sub (List.mem_of_getElem? hms)).length_le
          rw [List.length_take] at q
          omega
        refine ⟨tp, r, _, _, rfl, rfl, sqT (sm5 _ _ htp4), sqT e5, ?_, fun hnil => ?_, ?_, fun hne hne2 z hz => ?_⟩
        · rw [List.length_map]
          show ms.length + 1 ≤ sizeLine
          exact Nat.le_of_lt (small1000 (by omega))
        · refine ⟨zs, sm5 _ _ e4, small1000 (by omega), ?_⟩
          refine ⟨zs ++ [.ref r], fun b o h => by rw [upd_ne (nDr h)]; exact sm5 _ _ (sm4 _ _ h), upd_same, ?_⟩
          rw [et]
          have hms0 : ms = [] := by cases ms with
            | nil => rfl
            | cons a b => cases hnil
          subst hms0
          have tf : TFr H5 (upd H5 D (.lst (zs ++ [.ref r]))) := TFr.lst (sm5 _ _ e4)
          exact Paired.app ((m4.keep (TFr.same sm5)).keep tf) (Paired.one ⟨r, rfl, tf _ _ e5⟩)
        · intro _ hy
          cases hy
        · have e6 : (upd H5 z (.tup (ms.map V.int ++ [.int x]))) z = some (.tup (ms.map V.int ++ [.int x])) := upd_same
          have sm6 : Same H5 (upd H5 z (.tup (ms.map V.int ++ [.int x]))) := Same.new hz
          generalize upd H5 z (.tup (ms.map V.int ++ [.int x])) = H6 at *
          refine ⟨zs, sm6 _ _ (sm5 _ _ e4), small1000 (by omega), ?_⟩
          refine ⟨zs ++ [.ref z], fun b o h => by rw [upd_ne (nDr h)]; exact sm6 _ _ (sm5 _ _ (sm4 _ _ h)), upd_same, ?_⟩
          rw [et]
          have tf : TFr H6 (upd H6 D (.lst (zs ++ [.ref z]))) := TFr.lst (sm6 _ _ (sm5 _ _ e4))
          exact Paired.app ((m4.keep (TFr.same (sm5.trans sm6))).keep tf) (Paired.one ⟨z, rfl, by rw [List.map_append]; exact tf _ _ e6⟩)
      · rintro H4 ⟨zs, sm4, e4, m4⟩
        rw [List.take_of_length_le (by rw [Paired.length hm]; exact Nat.le_refl _)] at m4
        have hzl := Paired.length m4
        rw [List.length_map, ← Paired.length hm] at hzl
        refine ⟨u, D, ys, zs, rfl, rfl, sm4 _ _ eu, e4, Nat.le_of_lt (small1000 (by omega)), fun r hr => ?_⟩
        have sr : Same H4 (upd H4 r (.lst (ys ++ zs))) := Same.new hr
        refine ⟨r, ys ++ zs, some (.int x), rfl, (sm.trans sm4).trans sr, (sm.trans sm4).free hr, upd_same, ?_⟩
        have et : ns.take (i + 1) = ns.take i ++ [x] := by rw [List.take_add_one, hx]; rfl
        rw [et, lots_snoc]
        exact Paired.app (hm.keep (TFr.same (sm4.trans sr))) (m4.keep (TFr.same sr))
    · rintro σ H2 ⟨u, ys, v, rfl, sm, hu0, eu, hm⟩
      rw [List.length_map, List.take_length] at hm
      exact ⟨_, rfl, k u ys H2 eu hm sm hu0⟩
end
end Xci

namespace Xci
open PySem L2

section
variable {P : Program} {w : World} {K : PySem.W.Frag} {mg : Str → Option Value} {base : Heap}
abbrev sLawWords : Stmt := top 49
theorem scLawWords : FnScope ["deck", "most", "found", "turn", "word"] ["deck", "most"] (defScope sLawWords) := ⟨rfl, rfl, rfl, by decide +kernel, rfl, by decide +kernel, by decide +kernel⟩

theorem ok_words {f : Addr} {fd : FuncData} (F : Fun K "_law_words" "_law_words" sLawWords f fd) (T : Txt mg) (HT : Has P w K mg base "_law_take" ["deck", "many"] 1 spTake) (HW : Has P w K mg base "_law_word" ["deck"] 2 spWord) : FnOk P w K mg base CX0 3 f fd ["deck", "most"] spWords := by
  refine F.ok scLawWords (fun vs H Q E h => ?_) (fun cdv A outer s H vs Q E hr h => ?_)
  · obtain ⟨a, ld, m, rfl, _⟩ := h
    rfl
  · obtain ⟨a, ld, m, rfl, hd, hm0, hm1, k⟩ := h
    refine ⟨_, (pss_cons (ps_set (i := 2) scLawWords.nd rfl (by first | exact Or.inl rfl | exact Or.inr rfl) (pe_lst pa_nil))
      (pss_cons (ps_for PassesOwn.never rfl (pi_range1 rfl T.range (pa_cons (pe_op op_add pe_int (pe_callH HT (hr.mono (by decide)) rfl (pa_cons (pv 0) (pa_cons (pv 1) pa_nil)))) pa_nil)) (pg_name (i := 3) scLawWords.nd rfl (by first | exact Or.inl rfl | exact Or.inr rfl)) (pss_cons (ps_set (i := 4) scLawWords.nd rfl (by first | exact Or.inl rfl | exact Or.inr rfl) (pe_callH HW (hr.mono (by decide)) rfl (pa_cons (pv 0) pa_nil)))
      (pss_one (ps_if (pt_cmpR op_notIn_seq (pv 4) (pv 2) (by with_unfolding_all rfl)) (pss_one (ps_expr (pe_bm PySem.F.plainAttrs_list PySem.F.slot_list_append PySem.F.type_list_append mt_append (pv 2) (pa_cons (pv 4) pa_nil)))) pss_nil))))
      (pss_one (ps_ret (pv 2))))), ?_⟩
    refine ⟨Nat.zero_le _, fun q hq => ?_⟩
    have d1 : Deck (upd H q (.lst [])) a ld := hd.keep (Same.new hq)
    have f1 : Fr a H (upd H q (.lst [])) := Fr.new hq
    have nq := hd.ne hq
    have mq := hd.ne' hq
    have eq : (upd H q (.lst [])) q = some (.lst []) := upd_same
    generalize upd H q (.lst []) = H1 at *
    refine ⟨_, rfl, _, rfl, a, ld, m, rfl, d1, hm0, by omega, fun d H2 d0 d1' hd2 f2 _ => ?_⟩
    refine ⟨_, _, rfl, rfl, _, rfl, by omega, by omega, ?_⟩
    refine for_range (n := (1 + d).toNat) (fun i σ H3 => ∃ (zs : List Str) (v v' : Option V), σ = [some (.ref a), some (.int m), some (.ref q), v, v'] ∧ H3 q = some (.lst (zs.map V.str)) ∧ Deck H3 a ld ∧ Fr a H H3 ∧ zs.length ≤ i ∧ (1 ≤ i → zs ≠ []) ∧ zs.Nodup ∧ ∀ z ∈ zs, WordOk z)
      ⟨[], none, none, rfl, f2 _ _ eq nq, hd2, f1.trans f2, Nat.zero_le _, fun h => by omega, by simp, by simp⟩ ?_ ?_
    · rintro i σ H3 hi ⟨zs, v, v', rfl, e3, hd3, f3, hl, hne, hnd, hz⟩
      refine ⟨_, rfl, a, ld, rfl, hd3, fun z H4 wz hd4 f4 => ?_⟩
      have e4 := f4 _ _ e3 nq
      refine ⟨_, rfl, _, rfl, q, _, rfl, .inl (SqL.of e4), rfl, flat_strs zs, _, rfl, ?_⟩
      rw [inV_str]
      refine ite2 (fun hn => ?_) (fun hn => ?_)
      · have hn' : ¬ z ∈ zs := by simpa using hn
        refine ⟨_, rfl, .inl ⟨rfl, _, SqL.of e4⟩, _, rfl, q, _, _, rfl, rfl, e4, by rw [List.length_map]; exact small1000 (by omega), ?_⟩
        refine ⟨zs ++ [z], _, _, rfl, by rw [upd_same, List.map_append]; rfl, hd4.put nq mq, fun b o h n => by rw [upd_ne (ne_of_none h hq)]; exact f4 _ _ (f3 _ _ h n) n, by rw [List.length_append]; exact Nat.succ_le_succ hl, fun _ => by simp, ?_, fun y hy => ?_⟩
        · exact List.nodup_append.mpr ⟨hnd, by simp, fun x hx y hy e => hn' (by rw [← List.mem_singleton.mp hy, ← e]; exact hx)⟩
        · rcases List.mem_append.mp hy with h | h
          · exact hz y h
          · rw [List.mem_singleton.mp h]; exact wz
      · have hin : z ∈ zs := by simpa using hn
        exact ⟨zs, _, _, rfl, e4, hd4, f3.trans f4, by omega, fun _ e => (by rw [e] at hin; simp at hin), hnd, hz⟩
    · rintro σ H3 ⟨zs, v, v', rfl, e3, hd3, f3, hl, hne, hnd, hz⟩
      exact ⟨_, rfl, k q zs H3 (hne (by omega)) (by omega) hnd hz e3 hq hd3 f3⟩
end
end Xci

namespace Xci
open PySem L2

section
variable {P : Program} {w : World} {K : PySem.W.Frag} {mg : Str → Option Value} {base : Heap}
abbrev sLawFamily : Stmt := top 51
theorem scLawFamily : FnScope ["deck", "many", "every", "most", "size"] ["deck"] (defScope sLawFamily) := ⟨rfl, rfl, rfl, by decide +kernel, rfl, by decide +kernel, by decide +kernel⟩

theorem fam_at {j : Nat} (h : j < 10) : ∃ n : Int, ([V.int 2, .int 3, .int 2, .int 3, .int 1, .int 4, .int 3, .int 6, .int 0, .int 5] : List V)[j]? = some (.int n) ∧ 0 ≤ n ∧ n ≤ 6 := by
  have : ∀ j : Fin 10, ∃ n : Fin 7, ([V.int 2, .int 3, .int 2, .int 3, .int 1, .int 4, .int 3, .int 6, .int 0, .int 5] : List V)[j.val]? = some (.int (n.val : Int)) := by decide
  obtain ⟨n, e⟩ := this ⟨j, h⟩
  exact ⟨n.val, e, by omega, by omega⟩
theorem cutN (xs : List V) (k : Nat) : cutV xs none (some (k : Int)) = xs.take k := by
  unfold cutV
  have e0 : HT.sIx xs.length 0 none = 0 := rfl
  rw [e0, HT.sIx_nat, List.drop_zero, Nat.sub_zero, ← List.take_take, List.take_length]
theorem ok_family {f : Addr} {fd : FuncData} (F : Fun K "_law_family" "_law_family" sLawFamily f fd) (T : Txt mg) (HT : Has P w K mg base "_law_take" ["deck", "many"] 1 spTake) (HL : Has P w K mg base "_law_lots" ["items"] 1 (spLots K))
    (HM : Has P w K mg base "_law_mixed" ["deck", "things"] 2 (spMixed K)) : FnOk P w K mg base CX0 3 f fd ["deck"] spFamily := by
  refine F.ok scLawFamily (fun vs H Q E h => ?_) (fun cdv A outer s H vs Q E hr h => ?_)
  · obtain ⟨a, ld, rfl, _⟩ := h
    rfl
  · obtain ⟨a, ld, rfl, hd, k⟩ := h
    refine ⟨_, (C8.pss_cut (ps_set (i := 1) scLawFamily.nd rfl (by first | exact Or.inl rfl | exact Or.inr rfl) (pe_ix ix_tup (pe_tup (pa_cons pe_int (pa_cons pe_int (pa_cons pe_int (pa_cons pe_int (pa_cons pe_int (pa_cons pe_int (pa_cons pe_int (pa_cons pe_int (pa_cons pe_int (pa_cons pe_int pa_nil))))))))))) (pe_callH HT (hr.mono (by decide)) rfl (pa_cons (pv 0) (pa_cons pe_int pa_nil))) (fun _ _ => rfl)))
      (pss_cons (ps_set (i := 2) scLawFamily.nd rfl (by first | exact Or.inl rfl | exact Or.inr rfl) (pe_callH HL (hr.mono (by decide)) rfl (pa_cons (pe_tupRg rfl rfl T.tuple (prg_1 rfl T.range (pv 1))) pa_nil)))
      (pss_cons (ps_set (i := 3) scLawFamily.nd rfl (by first | exact Or.inl rfl | exact Or.inr rfl) pe_int)
      (C8.pss_cut (ps_if (pt_cmpR op_eq (pe_callH HT (hr.mono (by decide)) rfl (pa_cons (pv 0) (pa_cons pe_int pa_nil))) pe_int (nomark _)) (pss_one (ps_set (i := 3) scLawFamily.nd rfl (by first | exact Or.inl rfl | exact Or.inr rfl) pe_int)) pss_nil)
      (C8.pss_cut (ps_set (i := 4) scLawFamily.nd rfl (by first | exact Or.inl rfl | exact Or.inr rfl) (pe_op op_add pe_int (pe_callH HT (hr.mono (by decide)) rfl (pa_cons (pv 0) (pa_cons (pe_callB (call_min2 rfl) rfl T.min (by decide +kernel) (pa_cons (pv 3) (pa_cons (pe_callB call_len rfl T.len PySem.boot_len (pa_cons (pv 2) pa_nil)) pa_nil))) pa_nil)))))
      (pss_one (ps_ret (pe_tup (pa_cons (pv 1) (pa_cons (pe_callTy call_tuple_of rfl T.tuple (by decide +kernel) (pa_cons (pe_slice sl_list (pe_callH HM (hr.mono (by decide)) rfl (pa_cons (pv 0) (pa_cons (pv 2) pa_nil))) po_none (po_some (pv 4))) pa_nil)) pa_nil)))))))))), ?_⟩
    refine ⟨fun σ' H2 => ∃ many : Int, 0 ≤ many ∧ many ≤ 6 ∧ σ' = [some (.ref a), some (.int many), none, none, none] ∧ Deck H2 a ld ∧ Fr a H H2, ?_, ?_⟩
    · refine ⟨(by show 10 ≤ sizeLine; decide), fun t ht => ?_⟩
      have et : (upd H t (.tup [.int 2, .int 3, .int 2, .int 3, .int 1, .int 4, .int 3, .int 6, .int 0, .int 5])) t = some (.tup [.int 2, .int 3, .int 2, .int 3, .int 1, .int 4, .int 3, .int 6, .int 0, .int 5]) := upd_same
      have s1 : Same H (upd H t (.tup [.int 2, .int 3, .int 2, .int 3, .int 1, .int 4, .int 3, .int 6, .int 0, .int 5])) := Same.new ht
      generalize upd H t (.tup [.int 2, .int 3, .int 2, .int 3, .int 1, .int 4, .int 3, .int 6, .int 0, .int 5]) = H1 at *
      have hd1 := hd.keep s1
      refine ⟨_, rfl, a, ld, _, rfl, hd1, by decide, by decide, fun d H2 d0 d1 hd2 f2 _ => ?_⟩
      obtain ⟨j, ej⟩ : ∃ j : Nat, d = (j : Int) := ⟨d.toNat, by omega⟩
      subst ej
      obtain ⟨n, en, n0, n1⟩ := fam_at (j := j) (by omega)
      refine ⟨t, _, _, _, rfl, rfl, sqT (hd1.tfr f2 _ _ et), at_of rfl en, ?_⟩
      exact ⟨n, n0, n1, rfl, hd2, (Fr.same s1).trans f2⟩
    rintro σ' H2 ⟨many, m0, m1, rfl, hd2, f2⟩
    refine ⟨_, rfl, _, rfl, RgOk.of_le (by omega) (by omega) (by omega) (by omega), fun t ht => ?_⟩
    have et : (upd H2 t (.tup (rgV 0 many))) t = some (.tup ((rng many).map V.int)) := by rw [upd_same, rgV_rng]
    have s3 : Same H2 (upd H2 t (.tup (rgV 0 many))) := Same.new ht
    generalize upd H2 t (.tup (rgV 0 many)) = H3 at *
    have hlen : (rng many).length ≤ 6 := by rw [rng_len]; omega
    refine ⟨t, rng many, rfl, sqT et, hlen, fun q ys H4 eq mk s4 hq => ?_⟩
    have hd4 := (hd2.keep s3).keep s4
    have f4 : Fr a H H4 := f2.trans (Fr.same (s3.trans s4))
    have hq0 : H q = Option.none := hd2.free f2 (s3.free hq)
    have nq := hd.ne hq0
    have mq := hd.ne' hq0
    have hys : ys.length = 2 ^ (rng many).length := by rw [Paired.length mk, lots_len]
    have hysN : 1 ≤ ys.length ∧ ys.length ≤ 64 := by
      rw [hys]
      exact ⟨Nat.one_le_two_pow, (Nat.pow_le_pow_right (by decide) hlen : 2 ^ (rng many).length ≤ 2 ^ 6)⟩
    refine ⟨fun σ' H5 => ∃ most : Int, 1 ≤ most ∧ most ≤ 24 ∧ σ' = [some (.ref a), some (.int many), some (.ref q), some (.int most), none] ∧ Deck H5 a ld ∧ Fr a H4 H5, ?_, ?_⟩
    · refine ⟨_, rfl, a, ld, _, rfl, hd4, by decide, by decide, fun d H5 d0 d1 hd5 f5 _ => ⟨rfl, _, rfl, ?_⟩⟩
      exact ite2 (fun _ => ⟨24, by decide, by decide, rfl, hd5, f5⟩) (fun _ => ⟨8, by decide, by decide, rfl, hd5, f5⟩)
    rintro σ' H5 ⟨most, t0, t1, rfl, hd5, f5⟩
    have eq5 := f5 _ _ eq nq
    refine ⟨fun σ' H6 => ∃ n : Nat, 1 ≤ n ∧ n ≤ ys.length ∧ n ≤ 24 ∧ σ' = [some (.ref a), some (.int many), some (.ref q), some (.int most), some (.int (n : Int))] ∧ Deck H6 a ld ∧ Fr a H5 H6, ?_, ?_⟩
    · refine ⟨_, rfl, _, rfl, _, rfl, _, ys.length, rfl, .inl ⟨_, SqL.of eq5, rfl⟩, _, _, rfl, a, ld, _, rfl, hd5, by split <;> omega, by split <;> omega, fun d H6 d0 d1 hd6 f6 _ => ?_⟩
      refine ⟨_, _, rfl, rfl, ?_⟩
      have dlt : d < (ys.length : Int) ∧ d < 24 := by
        split at d1 <;> omega
      obtain ⟨n, en⟩ : ∃ n : Nat, 1 + d = (n : Int) := ⟨(1 + d).toNat, by omega⟩
      exact ⟨n, by omega, by omega, by omega, congrArg (fun z => [some (V.ref a), some (V.int many), some (V.ref q), some (V.int most), some (V.int z)]) en, hd6, f6⟩
    rintro σ' H6 ⟨n, n1, n2, n3, rfl, hd6, f6⟩
    have eq6 := f6 _ _ eq5 nq
    refine ⟨_, rfl, _, rfl, _, rfl, a, ld, q, ys, rfl, hd6, Sq.lst eq6, by omega, fun r zs H7 pm er hr0 hd7 f7 => ?_⟩
    refine ⟨_, rfl, _, rfl, r, zs, rfl, SqL.of er, fun u hu => ?_⟩
    rw [cutN]
    have e8 : (upd H7 u (.lst (zs.take n))) u = some (.lst (zs.take n)) := upd_same
    have s8 : Same H7 (upd H7 u (.lst (zs.take n))) := Same.new hu
    generalize upd H7 u (.lst (zs.take n)) = H8 at *
    refine ⟨u, _, rfl, .inl ⟨SqL.of e8, fun p hp => ?_⟩⟩
    have e9 : (upd H8 p (.tup (zs.take n))) p = some (.tup (zs.take n)) := upd_same
    have s9 : Same H8 (upd H8 p (.tup (zs.take n))) := Same.new hp
    generalize upd H8 p (.tup (zs.take n)) = H9 at *
    refine ⟨(by show 2 ≤ sizeLine; decide), fun v hv => ?_⟩
    have s10 : Same H9 (upd H9 v (.tup [.int many, .ref p])) := Same.new hv
    have f47 : Fr a H4 H7 := (f5.trans f6).trans f7
    have t47 : TFr H4 H7 := hd4.tfr f47
    have mk7 : Mks H7 ys (lots (rng many)) := mk.keep t47
    obtain ⟨cs, mkc, pc⟩ := Paired.perm pm mk7
    have mk10 : Mks (upd H9 v (.tup [.int many, .ref p])) (zs.take n) (cs.take n) := Mks.keep (TFr.same ((s8.trans s9).trans s10)) (Paired.take n mkc)
    have hzl := pm.length_eq
    have hcl : cs.length = ys.length := by rw [pc.length_eq, ← Paired.length mk]
    refine k (.ref v) p many (zs.take n) (cs.take n) _ ⟨v, rfl, upd_same⟩ (s10 _ _ e9) mk10 ⟨m0, m1, ?_, ?_, ?_, fun c hc => ?_⟩ (((hd7.keep s8).keep s9).keep s10) ((f4.trans f47).trans (Fr.same ((s8.trans s9).trans s10)))
    · intro e
      have q := congrArg List.length e
      rw [List.length_take, List.length_nil] at q
      omega
    · rw [List.length_take]; omega
    · exact List.Sublist.nodup (List.take_sublist _ _) (pc.nodup_iff.mpr (lots_nd (rng_ok many).nd))
    · exact (rng_ok many).sub (lots_sub (pc.subset ((List.take_subset _ _) hc)))
end
end Xci

namespace Xci
open PySem L2

section
variable {P : Program} {w : World} {K : PySem.W.Frag} {mg : Str → Option Value} {base : Heap}
abbrev sIsInteger : Stmt := top 9
theorem scIsInteger : FnScope ["thing"] ["thing"] (defScope sIsInteger) := ⟨rfl, rfl, rfl, by decide +kernel, rfl, by decide +kernel, by decide +kernel⟩

theorem ok_integer {f : Addr} {fd : FuncData} (F : Fun K "is_integer" "is_integer" sIsInteger f fd) (T : Txt mg) : FnOk P w K mg base CX0 1 f fd ["thing"] spIsInteger := by
  refine F.ok scIsInteger (fun vs H Q E h => ?_) (fun cdv A outer s H vs Q E hr h => ?_)
  · obtain ⟨i, rfl, _⟩ := h
    rfl
  · obtain ⟨i, rfl, k⟩ := h
    refine ⟨_, (pss_one (ps_ret (pe_and (pe_callB call_isi rfl T.isinstance (by decide +kernel) (pa_cons (pv 0) (pa_cons (pe_bltn rfl T.int (by decide +kernel) (v := V.ty "int") rfl) pa_nil))) (pe_one (pe_not (pe_callB call_isi rfl T.isinstance (by decide +kernel) (pa_cons (pv 0) (pa_cons (pe_bltn rfl T.bool (by decide +kernel) (v := V.ty "bool") rfl) pa_nil)))))))), ?_⟩
    refine ⟨_, rfl, _, _, _, _, true, rfl, .ty _, .base (.int _), kit_ty (by decide +kernel), _, rfl, ?_⟩
    exact ⟨_, rfl, _, _, _, _, false, rfl, .ty _, .base (.int _), kit_ty (by decide +kernel), _, rfl, k⟩
abbrev sIsBetween : Stmt := top 10
theorem scIsBetween : FnScope ["low", "high", "thing"] ["low", "high", "thing"] (defScope sIsBetween) := ⟨rfl, rfl, rfl, by decide +kernel, rfl, by decide +kernel, by decide +kernel⟩

theorem ok_between {f : Addr} {fd : FuncData} (F : Fun K "is_between" "is_between" sIsBetween f fd) (HI : Has P w K mg base "is_integer" ["thing"] 1 spIsInteger) : FnOk P w K mg base CX0 2 f fd ["low", "high", "thing"] spBetween := by
  refine F.ok scIsBetween (fun vs H Q E h => ?_) (fun cdv A outer s H vs Q E hr h => ?_)
  · obtain ⟨lo, hi, x, rfl, _⟩ := h
    rfl
  · obtain ⟨lo, hi, x, rfl, k⟩ := h
    refine ⟨_, (pss_one (ps_ret (pe_and (pe_callH HI (hr.mono (by decide)) rfl (pa_cons (pv 2) pa_nil)) (pe_one (pe_chain op_le op_le (pv 0) (pv 2) (pv 1)))))), ?_⟩
    refine ⟨_, rfl, x, rfl, _, rfl, ?_⟩
    refine ⟨_, rfl, _, rfl, _, _, rfl, rfl, _, rfl, ?_⟩
    refine ite2 (fun h1 => ?_) (fun h1 => ?_)
    · have h1' : lo ≤ x := of_decide_eq_true h1
      refine ⟨_, rfl, _, _, rfl, rfl, ?_⟩
      have e : decide (lo ≤ x ∧ x ≤ hi) = decide (x ≤ hi) := by simp [h1']
      rw [e] at k
      exact k
    · have h1' : ¬ lo ≤ x := fun q => h1 (decide_eq_true q)
      have e : decide (lo ≤ x ∧ x ≤ hi) = false := by simp [h1']
      rw [e] at k
      exact k
abbrev sIsCell : Stmt := top 11
theorem scIsCell : FnScope ["many", "thing", "lowest", "mark"] ["many", "thing"] (defScope sIsCell) := ⟨rfl, rfl, rfl, by decide +kernel, rfl, by decide +kernel, by decide +kernel⟩

theorem ok_cell {f : Addr} {fd : FuncData} (F : Fun K "is_cell" "is_cell" sIsCell f fd) (T : Txt mg) (HB : Has P w K mg base "is_between" ["low", "high", "thing"] 2 spBetween) : FnOk P w K mg base CX0 3 f fd ["many", "thing"] spIsCell := by
  refine F.ok scIsCell (fun vs H Q E h => ?_) (fun cdv A outer s H vs Q E hr h => ?_)
  · obtain ⟨n, v, ms, rfl, _⟩ := h
    rfl
  · obtain ⟨n, v, ms, rfl, ⟨p, rfl, hp⟩, ok, k⟩ := h
    refine ⟨_, (pss_cons (ps_if (pt_not (pt_val (pe_callB call_isi rfl T.isinstance (by decide +kernel) (pa_cons (pv 1) (pa_cons (pe_bltn rfl T.tuple (by decide +kernel) (v := V.ty "tuple") rfl) pa_nil))))) (pss_one (ps_ret pe_bl)) pss_nil)
      (pss_cons (ps_set (i := 2) scIsCell.nd rfl (by first | exact Or.inl rfl | exact Or.inr rfl) pe_int)
      (pss_cons (ps_for PassesOwn.never rfl (pi_tup (pv 1)) (pg_name (i := 3) scIsCell.nd rfl (by first | exact Or.inl rfl | exact Or.inr rfl)) (pss_cons (ps_if (pt_not (pt_val (pe_callH HB (hr.mono (by decide)) rfl (pa_cons (pv 2) (pa_cons (pe_op op_sub (pv 0) pe_int) (pa_cons (pv 3) pa_nil)))))) (pss_one (ps_ret pe_bl)) pss_nil)
      (pss_one (ps_set (i := 2) scIsCell.nd rfl (by first | exact Or.inl rfl | exact Or.inr rfl) (pe_op op_add (pv 3) pe_int)))))
      (pss_one (ps_ret pe_bl))))), ?_⟩
    refine ⟨_, rfl, _, _, _, _, true, rfl, .ty _, .base (.tup hp), kit_ty (by decide +kernel), _, rfl, ?_⟩
    refine iteF ?_
    refine ⟨_, rfl, p, rfl, ⟨_, sqT hp⟩, for_tup (K := K) (a := p) (xs := ms.map V.int) (fun i σ H2 => H2 = H ∧ ∃ (z : Int) (v : Option V), σ = [some (.int n), some (.ref p), some (.int z), v] ∧ ∀ m, ms[i]? = some m → z ≤ m) ⟨rfl, 0, none, rfl, fun m hm => ok.lo m (List.mem_of_getElem? hm)⟩ (fun i σ H2 _ ⟨e, _⟩ => by rw [e]; exact sqT hp) ?_ ?_⟩
    · rintro i y σ H2 hi ⟨rfl, z, v, rfl, hz⟩
      obtain ⟨m, hm, rfl⟩ := int_of hi
      have mem := List.mem_of_getElem? hm
      have h1 := hz m hm
      have h2 := ok.hi m mem
      refine ⟨_, rfl, _, rfl, _, _, rfl, rfl, _, rfl, _, _, m, rfl, _, rfl, ?_⟩
      have e : decide (z ≤ m ∧ m ≤ n - 1) = true := decide_eq_true ⟨h1, by omega⟩
      refine ite2 (fun hf => ?_) (fun _ => ?_)
      · have hf' : (!decide (z ≤ m ∧ m ≤ n - 1)) = true := hf
        rw [e] at hf'
        cases hf'
      · refine ⟨_, rfl, _, _, rfl, rfl, ?_⟩
        refine ⟨rfl, m + 1, _, rfl, fun m' hm' => ?_⟩
        have hlt1 := (List.getElem?_eq_some_iff.mp hm)
        have hlt2 := (List.getElem?_eq_some_iff.mp hm')
        obtain ⟨l1, e1⟩ := hlt1
        obtain ⟨l2, e2⟩ := hlt2
        have := List.pairwise_iff_getElem.mp ok.up i (i + 1) l1 l2 (Nat.lt_succ_self i)
        omega
    · rintro σ H2 ⟨rfl, z, v, rfl, hz⟩
      exact k
abbrev sAreCells : Stmt := top 43
theorem scAreCells : FnScope ["many", "thing", "cell"] ["many", "thing"] (defScope sAreCells) := ⟨rfl, rfl, rfl, by decide +kernel, rfl, by decide +kernel, by decide +kernel⟩

theorem ok_areCells {f : Addr} {fd : FuncData} (F : Fun K "_are_cells" "_are_cells" sAreCells f fd) (T : Txt mg) (TS : mg "set" = none) (c : FamCst mg) (HC : Has P w K mg base "is_cell" ["many", "thing"] 3 spIsCell) : FnOk P w K mg base CX0 4 f fd ["many", "thing"] spAreCells := by
  refine F.ok scAreCells (fun vs H Q E h => ?_) (fun cdv A outer s H vs Q E hr h => ?_)
  · obtain ⟨many, p, ys, cells, rfl, _⟩ := h
    rfl
  · obtain ⟨many, p, ys, cells, rfl, hp, each, ok, k⟩ := h
    refine ⟨_, (pss_cons (ps_if (PW.pt (pw_or (pt_not (pt_val (pe_callB call_isi rfl T.isinstance (by decide +kernel) (pa_cons (pv 1) (pa_cons (pe_bltn rfl T.tuple (by decide +kernel) (v := V.ty "tuple") rfl) pa_nil))))) (pw_or1 (pt_not (pt_chain op_le op_le pe_int (pe_callB call_len rfl T.len PySem.boot_len (pa_cons (pv 1) pa_nil)) (pe_gint rfl c.MOST_CELLS)))))) (pss_one (ps_ret pe_bl)) pss_nil)
      (pss_cons (ps_for PassesOwn.never rfl (pi_tup (pv 1)) (pg_name (i := 2) scAreCells.nd rfl (by first | exact Or.inl rfl | exact Or.inr rfl)) (pss_one (ps_if (pt_not (pt_val (pe_callH HC (hr.mono (by decide)) rfl (pa_cons (pv 0) (pa_cons (pv 2) pa_nil))))) (pss_one (ps_ret pe_bl)) pss_nil)))
      (pss_one (ps_ret (pe_cmpR op_eq (pe_lenSetT rfl (hu64 hr) rfl T.len rfl TS (pv 1)) (pe_callB call_len rfl T.len PySem.boot_len (pa_cons (pv 1) pa_nil)) (nomark _)))))), ?_⟩
    have len := Paired.length each
    have pos : 0 < cells.length := List.length_pos_iff.mpr ok.ne
    have few := ok.len
    refine ⟨_, rfl, _, _, _, _, true, rfl, .ty _, .base (.tup hp), kit_ty (by decide +kernel), _, rfl, ?_⟩
    refine iteF ?_
    refine ⟨_, rfl, _, ys.length, rfl, .inr ⟨_, sqT hp, rfl⟩, _, _, rfl, rfl, _, rfl, ?_⟩
    refine ite2 (fun _ => ?_) (fun no => absurd (decide_eq_true (show (1 : Int) ≤ ((ys.length : Nat) : Int) by omega)) no)
    refine ⟨_, _, rfl, rfl, _, rfl, ?_⟩
    refine ite2 (fun no => ?_) (fun _ => ?_)
    · have no' : (!decide (((ys.length : Nat) : Int) ≤ (24 : Int))) = true := no
      rw [decide_eq_true (show ((ys.length : Nat) : Int) ≤ (24 : Int) by omega)] at no'
      cases no'
    refine ⟨_, rfl, p, rfl, ⟨_, sqT hp⟩, for_tup (K := K) (a := p) (xs := ys) (fun i σ H2 => H2 = H ∧ ∃ v : Option V, σ = [some (.int many), some (.ref p), v]) ⟨rfl, none, rfl⟩ (fun i σ H2 _ ⟨e, _⟩ => by rw [e]; exact sqT hp) ?_ ?_⟩
    · rintro i y σ H2 hi ⟨rfl, v, rfl⟩
      obtain ⟨ms, at_, told⟩ := Paired.get each hi
      refine ⟨_, rfl, _, rfl, many, y, ms, rfl, told, ok.ok ms (List.mem_of_getElem? at_), _, rfl, ?_⟩
      exact iteF ⟨rfl, _, rfl⟩
    · rintro σ H2 ⟨rfl, v, rfl⟩
      obtain ⟨ks, e1, e2, e3⟩ := Mks.placed (K := K) each
      have same : ks.length = ys.length := by rw [e1, List.length_map]
      refine ⟨_, rfl, p, ks, rfl, (by rw [← e1]; exact sqT hp), e3, (by omega), fun n _ all => ?_⟩
      have full : n = ks.length := all.mpr (by rw [e2]; exact ok.nd)
      refine ⟨_, rfl, _, ys.length, rfl, .inr ⟨_, sqT hp, rfl⟩, ?_⟩
      rw [full, same]
      refine ⟨rfl, ?_⟩
      rw [decide_eq_true (show V.int ((ys.length : Nat) : Int) = V.int ((ys.length : Nat) : Int) from rfl)]
      exact k
abbrev sFamilyInit : Stmt := inClass (top 42) 0
theorem scFamilyInit : FnScope ["self", "many", "cells"] ["self", "many", "cells"] (defScope sFamilyInit) := ⟨rfl, rfl, rfl, by decide +kernel, rfl, by decide +kernel, by decide +kernel⟩

theorem ok_fam {f C : Addr} {fd : FuncData} (F : Fun K "__init__" "Family.__init__" sFamilyInit f fd) (T : Txt mg) (c : FamCst mg) (FT : FamTxt K mg C) (HB : Has P w K mg base "is_between" ["low", "high", "thing"] 2 spBetween) (HA : Has P w K mg base "_are_cells" ["many", "thing"] 4 spAreCells) :
    FnOk P w K mg base CX0 5 f fd ["self", "many", "cells"] (spFam C) := by
  refine F.ok scFamilyInit (fun vs H Q E h => ?_) (fun cdv A outer s H vs Q E hr h => ?_)
  · obtain ⟨x, dx, many, p, ys, cells, rfl, _⟩ := h
    rfl
  · obtain ⟨x, dx, many, p, ys, cells, rfl, hx, hp, each, ok, k⟩ := h
    refine ⟨_, (pss_cons (ps_if (pt_not (pt_val (pe_callH HB (hr.mono (by decide)) rfl (pa_cons pe_int (pa_cons (pe_gint rfl c.MOST_MARKS) (pa_cons (pv 1) pa_nil)))))) (pss_one ps_never) pss_nil)
      (pss_cons (ps_if (pt_not (pt_val (pe_callH HA (hr.mono (by decide)) rfl (pa_cons (pv 1) (pa_cons (pv 2) pa_nil))))) (pss_one ps_never) pss_nil)
      (pss_cons (ps_fld (pv 0) (pv 1) rfl)
      (pss_one (ps_fld (pv 0) (pv 2) rfl))))), ?_⟩
    refine ⟨_, rfl, _, _, _, rfl, _, rfl, ?_⟩
    rw [decide_eq_true (show (0 : Int) ≤ many ∧ many ≤ 6 from ⟨ok.lo, ok.hi⟩)]
    refine iteF ?_
    refine ⟨_, rfl, _, rfl, many, p, ys, cells, rfl, hp, each, ok, _, rfl, ?_⟩
    refine iteF ?_
    refine ⟨_, rfl, _, rfl, x, C, dx, [], rfl, hx, FT.cl, FT.nM, (by show 0 < 1000; decide), ?_⟩
    refine ⟨_, rfl, _, rfl, x, C, dx, _, rfl, upd_same, FT.cl, FT.nC, (by show 1 < 1000; decide), ?_⟩
    refine k _ ⟨dx, ?_⟩ fun b o e hb => ?_
    · rw [upd_same, putMany, putCells]
      rfl
    · rw [upd_ne hb, upd_ne hb]
      exact e
end
end Xci

namespace Xci
open PySem L2

section
variable {P : Program} {w : World} {K : PySem.W.Frag} {mg : Str → Option Value} {base : Heap}
abbrev sUnlike : Stmt := top 18
theorem scUnlike : FnScope ["forms", "form"] ["forms"] (defScope sUnlike) := ⟨rfl, rfl, rfl, by decide +kernel, rfl, by decide +kernel, by decide +kernel⟩

theorem ok_unlike {f : Addr} {fd : FuncData} (F : Fun K "_unlike" "_unlike" sUnlike f fd) (T : Txt mg) : FnOk P w K mg base CX0 1 f fd ["forms"] spUnlike := by
  refine F.ok scUnlike (fun vs H Q E h => ?_) (fun cdv A outer s H vs Q E hr h => ?_)
  · obtain ⟨p, fs, rfl, _⟩ := h
    rfl
  · obtain ⟨p, fs, rfl, hp, few, k⟩ := h
    refine ⟨_, (pss_one (ps_ret (pe_callB (cr_sortedTexts rfl) rfl T.sorted (by decide +kernel) (pa_cons (pe_texts (own := [("form", 1)]) rfl scUnlike.nd (pi_tup (pv 0)) (blkOk_by (N := ["forms", "form"]) (sc := defScope sUnlike) (by decide +kernel)) ⟨fun _ _ _ _ _ => (pg_name (i := 1) scUnlike.nd rfl (by first | exact Or.inl rfl | exact Or.inr rfl)), fun _ _ _ _ _ => pts_one (pt_cmpR op_notN (pv 1) pe_non (nomark _)), fun _ _ _ _ _ => (pv 1)⟩) pa_nil)))), ?_⟩
    refine ⟨_, rfl, p, rfl, ⟨_, sqT hp⟩, fun D hD => ⟨fs.length, fun i H2 => ∃ seen : List Str, seen.Nodup ∧ (∀ z, z ∈ seen ↔ some z ∈ fs.take i) ∧ seen.length ≤ i ∧ Same H H2 ∧ H2 D = some (TextsO P w D (fun z => decide (z ∈ seen)) seen.length), ?_, ?_, ?_⟩⟩
    · refine ⟨[], List.nodup_nil, fun z => by simp, Nat.le_refl _, Same.new hD, ?_⟩
      rw [upd_same]
      rfl
    · rintro H2 ⟨seen, nd, all, le, same, at2⟩
      rw [List.take_length] at all
      refine ⟨⟨fs.map formV, sqT (same _ _ hp), by rw [List.length_map]; exact Nat.le_refl _⟩, D, _, _, rfl, at2, by omega, fun xs q up members len free => k q xs _ ⟨up, fun z => ?_, ?_⟩ upd_same (same.trans (Same.new free))⟩
      · rw [members z, decide_eq_true_eq]
        exact all z
      · exact (count_unlike nd fun z => by rw [members z, decide_eq_true_eq]).2.mp len.symm
    · rintro i H2 hi ⟨seen, nd, all, le, same, at2⟩
      have hp2 := same _ _ hp
      refine ⟨⟨fs.map formV, formV fs[i], sqT hp2, by rw [List.getElem?_map, List.getElem?_eq_getElem hi] <;> rfl⟩, fun x H3 told => ?_⟩
      obtain ⟨rfl, told⟩ := told
      have ex : x = formV fs[i] := by
        have z := told _ (sqT hp2)
        rw [List.getElem?_map, List.getElem?_eq_getElem hi] at z
        exact (Option.some.inj z).symm
      subst ex
      have next : fs.take (i + 1) = fs.take i ++ [fs[i]] := by rw [List.take_succ, List.getElem?_eq_getElem hi] <;> rfl
      refine ⟨rfl, _, rfl, rfl, ?_⟩
      cases form : fs[i] with
      | none =>
        refine ⟨_, rfl, ?_⟩
        refine ite2 (fun no => ?_) (fun _ => ⟨seen, nd, fun z => ?_, by omega, same, at2⟩)
        · have no' : (!decide (V.non = V.non)) = true := no
          rw [decide_eq_true rfl] at no'
          cases no'
        · rw [next, form, all z]
          simp
      | some c =>
        refine ⟨_, rfl, ?_⟩
        refine ite2 (fun _ => ?_) (fun no => absurd (show (!decide (V.str c = V.non)) = true by rw [decide_eq_false (fun z : V.str c = V.non => nomatch z)] <;> rfl) no)
        refine ⟨_, rfl, c, _, _, rfl, at2, Nat.lt_of_lt_of_le (Nat.succ_lt_succ (Nat.lt_of_le_of_lt le (Nat.lt_trans hi few))) (by decide), ?_⟩
        have kept : ∀ o, Same H (upd H3 D o) := fun o b u e => by
          rw [upd_ne (ne_of_none e hD)]
          exact same b u e
        by_cases old : c ∈ seen
        · refine ⟨seen, nd, fun z => ?_, by omega, kept _, ?_⟩
          · rw [next, form, List.mem_append, List.mem_singleton, all z]
            constructor
            · exact .inl
            · rintro (h | h)
              · exact h
              · rw [Option.some.inj h]
                exact (all c).mp old
          · rw [upd_same, if_pos (decide_eq_true old)]
            refine congrArg some (congrArg (fun S => TextsO P w D S seen.length) (funext fun j => ?_))
            by_cases e : j = c
            · rw [e, decide_eq_true old] <;> rfl
            · rw [decide_eq_false e, Bool.or_false]
        · refine ⟨c :: seen, List.nodup_cons.mpr ⟨old, nd⟩, fun z => ?_, by rw [List.length_cons]; omega, kept _, ?_⟩
          · rw [next, form, List.mem_append, List.mem_singleton, List.mem_cons, all z]
            constructor
            · rintro (h | h)
              · rw [h]; exact .inr rfl
              · exact .inl h
            · rintro (h | h)
              · exact .inr h
              · exact .inl (Option.some.inj h)
          · rw [upd_same, if_neg (fun q => old (of_decide_eq_true q)), List.length_cons]
            refine congrArg some (congrArg (fun S => TextsO P w D S (seen.length + 1)) (funext fun j => ?_))
            by_cases e : j = c
            · rw [e, decide_eq_false old, decide_eq_true rfl, decide_eq_true List.mem_cons_self] <;> rfl
            · rw [decide_eq_false e, Bool.or_false]
              exact decide_eq_decide.mpr ⟨List.mem_cons_of_mem _, fun h => (List.mem_cons.mp h).resolve_left e⟩
abbrev sIsForm : Stmt := top 12
theorem scIsForm : FnScope ["thing", "letter"] ["thing"] (defScope sIsForm) := ⟨rfl, rfl, rfl, by decide +kernel, rfl, by decide +kernel, by decide +kernel⟩

theorem ok_form {f : Addr} {fd : FuncData} (F : Fun K "is_form" "is_form" sIsForm f fd) (T : Txt mg) (c : FormCst mg) : FnOk P w K mg base CX0 1 f fd ["thing"] spIsForm := by
  refine F.ok scIsForm (fun vs H Q E h => ?_) (fun cdv A outer s H vs Q E hr h => ?_)
  · obtain ⟨z, rfl, _⟩ := h
    rfl
  · obtain ⟨z, rfl, ok, k⟩ := h
    refine ⟨_, (pss_cons (ps_if (PW.pt (pw_or (pt_not (pt_val (pe_callB call_isi rfl T.isinstance (by decide +kernel) (pa_cons (pv 0) (pa_cons (pe_bltn rfl T.str (by decide +kernel) (v := V.ty "str") rfl) pa_nil))))) (pw_or1 (pt_not (pt_chain op_le op_le pe_int (pe_callB call_len rfl T.len PySem.boot_len (pa_cons (pv 0) pa_nil)) (pe_gint rfl c.LONGEST_FORM)))))) (pss_one (ps_ret pe_bl)) pss_nil)
      (pss_cons (ps_for PassesOwn.never rfl (pi_str (pv 0)) (pg_name (i := 1) scIsForm.nd rfl (by first | exact Or.inl rfl | exact Or.inr rfl)) (pss_one (ps_if (pt_not (pt_chain op_le_str op_le_str pe_str (pv 1) pe_str)) (pss_one (ps_ret pe_bl)) pss_nil)))
      (pss_one (ps_ret pe_bl)))), ?_⟩
    refine ⟨_, rfl, _, _, _, _, true, rfl, .ty _, .base (.str _), kit_ty (by decide +kernel), _, rfl, ?_⟩
    refine iteF ?_
    have e1 : decide ((1 : Int) ≤ ((z.length : Nat) : Int)) = true := decide_eq_true (by have := ok.lo; omega)
    have e2 : decide (((z.length : Nat) : Int) ≤ (8 : Int)) = true := decide_eq_true (by have := ok.hi; omega)
    refine ⟨_, rfl, _, z.length, rfl, ⟨Nat.le_of_lt (small1000 (by have := ok.hi; omega)), rfl⟩, _, _, rfl, rfl, _, rfl, ?_⟩
    refine ite2 (fun _ => ?_) (fun hf => absurd e1 hf)
    refine ⟨_, _, rfl, rfl, _, rfl, ?_⟩
    refine ite2 (fun hf => ?_) (fun _ => ?_)
    · have hf' : (!decide (((z.length : Nat) : Int) ≤ (8 : Int))) = true := hf
      rw [e2] at hf'
      cases hf'
    refine ⟨_, rfl, z, rfl, for_it (walk_str (z := z)) (fun i σ H2 => H2 = H ∧ ∃ v : Option V, σ = [some (.str z), v]) ⟨rfl, none, rfl⟩ (fun _ _ _ _ _ => trivial) ?_ ?_⟩
    · rintro i x σ H2 H3 hi ⟨rfl, v, rfl⟩ ⟨rfl, l, hl, rfl⟩
      have mem : l ∈ z.cps.toList := by
        rw [← Array.getElem?_toList] at hl
        exact List.mem_of_getElem? hl
      obtain ⟨b1, b2⟩ := ok.az l mem
      have q1 : (!decide ((⟨#[l]⟩ : Str).cps.toList < (Str.ofString "a").cps.toList)) = true := by
        have : (Str.ofString "a").cps.toList = [97] := by decide +kernel
        rw [this]
        show (!decide ([l] < [97])) = true
        rw [decide_eq_false (fun h => by have := List.cons_lt_cons_iff.mp h; simp at this; omega)]
        rfl
      have q2 : (!decide ((Str.ofString "z").cps.toList < (⟨#[l]⟩ : Str).cps.toList)) = true := by
        have : (Str.ofString "z").cps.toList = [122] := by decide +kernel
        rw [this]
        show (!decide ([122] < [l])) = true
        rw [decide_eq_false (fun h => by have := List.cons_lt_cons_iff.mp h; simp at this; omega)]
        rfl
      refine ⟨_, rfl, _, _, rfl, rfl, _, rfl, ?_⟩
      refine ite2 (fun _ => ?_) (fun hf => absurd q1 hf)
      refine ⟨_, _, rfl, rfl, _, rfl, ?_⟩
      refine ite2 (fun hf => ?_) (fun _ => ⟨rfl, _, rfl⟩)
      have hf' : (!(!decide ((Str.ofString "z").cps.toList < (⟨#[l]⟩ : Str).cps.toList))) = true := hf
      rw [q2] at hf'
      cases hf'
    · rintro σ H2 ⟨rfl, v, rfl⟩
      exact k
abbrev sAreForms : Stmt := top 17
theorem scAreForms : FnScope ["length", "thing", "form"] ["length", "thing"] (defScope sAreForms) := ⟨rfl, rfl, rfl, by decide +kernel, rfl, by decide +kernel, by decide +kernel⟩

theorem ok_areForms {f : Addr} {fd : FuncData} (F : Fun K "_are_forms" "_are_forms" sAreForms f fd) (T : Txt mg) (c : TabCst mg) (HF : Has P w K mg base "is_form" ["thing"] 1 spIsForm) (HU : Has P w K mg base "_unlike" ["forms"] 1 spUnlike) : FnOk P w K mg base CX0 2 f fd ["length", "thing"] spAreForms := by
  refine F.ok scAreForms (fun vs H Q E h => ?_) (fun cdv A outer s H vs Q E hr h => ?_)
  · obtain ⟨n, p, fs, rfl, _⟩ := h
    rfl
  · obtain ⟨n, p, fs, rfl, hp, ok, k⟩ := h
    refine ⟨_, (pss_cons (ps_if (PW.pt (pw_or (pt_not (pt_val (pe_callB call_isi rfl T.isinstance (by decide +kernel) (pa_cons (pv 1) (pa_cons (pe_bltn rfl T.tuple (by decide +kernel) (v := V.ty "tuple") rfl) pa_nil))))) (pw_or1 (pt_cmpR op_ne (pe_callB call_len rfl T.len PySem.boot_len (pa_cons (pv 1) pa_nil)) (pv 0) (nomark _))))) (pss_one (ps_ret pe_bl)) pss_nil)
      (pss_cons (ps_for PassesOwn.never rfl (pi_tup (pv 1)) (pg_name (i := 2) scAreForms.nd rfl (by first | exact Or.inl rfl | exact Or.inr rfl)) (pss_one (ps_if (PW.pt (pw_and (pt_cmpR op_notN (pv 2) pe_non (nomark _)) (pw_and1 (pt_not (pt_val (pe_callH HF (hr.mono (by decide)) rfl (pa_cons (pv 2) pa_nil))))))) (pss_one (ps_ret pe_bl)) pss_nil)))
      (pss_one (ps_ret (pe_cmpR op_le (pe_callB call_len rfl T.len PySem.boot_len (pa_cons (pe_callH HU (hr.mono (by decide)) rfl (pa_cons (pv 1) pa_nil)) pa_nil)) (pe_gint rfl c.MOST_FORMS) (nomark _)))))), ?_⟩
    have size : (fs.map formV).length = n := by rw [List.length_map]; exact ok.len
    have few := ok.few
    refine ⟨_, rfl, _, _, _, _, true, rfl, .ty _, .base (.tup hp), kit_ty (by decide +kernel), _, rfl, ?_⟩
    refine iteF ?_
    refine ⟨_, rfl, _, n, rfl, .inr ⟨_, sqT hp, size.symm⟩, _, rfl, rfl, _, rfl, ?_⟩
    refine ite2 (fun no => ?_) (fun _ => ?_)
    · have no' : (!decide (V.int (n : Int) = V.int (n : Int))) = true := no
      rw [decide_eq_true rfl] at no'
      cases no'
    refine ⟨_, rfl, p, rfl, ⟨_, sqT hp⟩, for_tup (K := K) (a := p) (xs := fs.map formV) (fun i σ H2 => H2 = H ∧ ∃ v : Option V, σ = [some (.int n), some (.ref p), v]) ⟨rfl, none, rfl⟩ (fun i σ H2 _ ⟨e, _⟩ => by rw [e]; exact sqT hp) ?_ ?_⟩
    · rintro i y σ H2 hi ⟨rfl, v, rfl⟩
      rw [List.getElem?_map] at hi
      obtain ⟨form, at_, rfl⟩ := Option.map_eq_some_iff.mp hi
      refine ⟨_, rfl, rfl, _, rfl, ?_⟩
      cases form with
      | none =>
        refine ite2 (fun no => ?_) (fun _ => iteF ⟨rfl, _, rfl⟩)
        have no' : (!decide (V.non = V.non)) = true := no
        rw [decide_eq_true rfl] at no'
        cases no'
      | some z =>
        refine ite2 (fun _ => ?_) (fun no => absurd (show (!decide (V.str z = V.non)) = true by rw [decide_eq_false (fun q : V.str z = V.non => nomatch q)] <;> rfl) no)
        refine ⟨_, rfl, z, rfl, ok.word z (List.mem_of_getElem? at_), _, rfl, ?_⟩
        exact iteF ⟨rfl, _, rfl⟩
    · rintro σ H2 ⟨rfl, v, rfl⟩
      refine ⟨_, rfl, p, fs, rfl, hp, (by rw [ok.len]; omega), fun q zs H' rise hq same => ⟨_, zs.length, rfl, .inl ⟨_, SqL.of hq, by rw [List.length_map]⟩, _, _, rfl, rfl, ?_⟩⟩
      show Q (V.bl (decide (((zs.length : Nat) : Int) ≤ 12))) H'
      rw [decide_eq_true (show ((zs.length : Nat) : Int) ≤ 12 from by have := ok.unlike zs rise; omega)]
      exact k _ same
abbrev sTableInit : Stmt := inClass (top 16) 0
theorem scTableInit : FnScope ["self", "family", "forms"] ["self", "family", "forms"] (defScope sTableInit) := ⟨rfl, rfl, rfl, by decide +kernel, rfl, by decide +kernel, by decide +kernel⟩

theorem ok_table {f C CF : Addr} {fd : FuncData} (F : Fun K "__init__" "Table.__init__" sTableInit f fd) (T : Txt mg) (TT : TabTxt K mg C) (FT : FamTxt K mg CF) (HA : Has P w K mg base "_are_forms" ["length", "thing"] 2 spAreForms) :
    FnOk P w K mg base CX0 3 f fd ["self", "family", "forms"] (spTab CF C) := by
  refine F.ok scTableInit (fun vs H Q E h => ?_) (fun cdv A outer s H vs Q E hr h => ?_)
  · obtain ⟨x, dx, fam, many, pc, ys, p, fs, rfl, _⟩ := h
    rfl
  · obtain ⟨x, dx, fam, many, pc, ys, p, fs, rfl, hx, ⟨df, hf⟩, ne, hc, hp, ok, k⟩ := h
    refine ⟨_, (pss_cons (ps_if (pt_not (pt_val (pe_callH HA (hr.mono (by decide)) rfl (pa_cons (pe_callB call_len rfl T.len PySem.boot_len (pa_cons (pe_fld (pv 1) rfl) pa_nil)) (pa_cons (pv 2) pa_nil))))) (pss_one ps_never) pss_nil)
      (pss_cons (ps_fld (pv 0) (pv 1) rfl)
      (pss_one (ps_fld (pv 0) (pv 2) rfl)))), ?_⟩
    refine ⟨_, rfl, fam, CF, df, _, _, rfl, hf, FT.cl, FT.nC, famF_cells _ _, _, ys.length, rfl, .inr ⟨_, sqT hc, rfl⟩, _, rfl, ys.length, p, fs, rfl, hp, ok, fun H' same => ?_⟩
    refine ⟨_, rfl, ?_⟩
    refine iteF ?_
    refine ⟨_, rfl, _, rfl, x, C, dx, [], rfl, same _ _ hx, TT.cl, TT.nF, (by show 0 < 1000; decide), ?_⟩
    refine ⟨_, rfl, _, rfl, x, C, dx, _, rfl, upd_same, TT.cl, TT.nO, (by show 1 < 1000; decide), ?_⟩
    refine k _ ⟨dx, ?_⟩ fun b o e hb => ?_
    · rw [upd_same, putFamily, putForms]
      rfl
    · rw [upd_ne hb, upd_ne hb]
      exact same b o e
end
end Xci

namespace Xci
open PySem L2

section
variable {P : Program} {w : World} {K : PySem.W.Frag} {mg : Str → Option Value} {base : Heap}
/-- forms for so many cells, of these words or none -/
def spForms : Sp := fun vs H Q _ => ∃ (a l p q : Addr) (ys : List V) (zs : List Str), vs = [.ref a, .ref p, .ref q] ∧ Deck H a l ∧ H p = some (.tup ys) ∧ ys.length ≤ 24 ∧ H q = some (.lst (zs.map V.str)) ∧ q ≠ a ∧ q ≠ l ∧ zs ≠ [] ∧ zs.length ≤ 1000 ∧
  ∀ (r : Addr) (fs : List (Option Str)) (H' : Hp), H' r = some (.tup (fs.map formV)) → fs.length = ys.length → (∀ z, some z ∈ fs → z ∈ zs) → Deck H' a l → Fr a H H' → Q (.ref r) H'
abbrev sLawForms : Stmt := top 52
theorem scLawForms : FnScope ["deck", "cells", "words", "found", "cell"] ["deck", "cells", "words"] (defScope sLawForms) := ⟨rfl, rfl, rfl, by decide +kernel, rfl, by decide +kernel, by decide +kernel⟩

theorem ok_forms {f : Addr} {fd : FuncData} (F : Fun K "_law_forms" "_law_forms" sLawForms f fd) (T : Txt mg) (HT : Has P w K mg base "_law_take" ["deck", "many"] 1 spTake) : FnOk P w K mg base CX0 2 f fd ["deck", "cells", "words"] spForms := by
  refine F.ok scLawForms (fun vs H Q E h => ?_) (fun cdv A outer s H vs Q E hr h => ?_)
  · obtain ⟨a, l, p, q, ys, zs, rfl, _⟩ := h
    rfl
  · obtain ⟨a, l, p, q, ys, zs, rfl, hd, hp, few, hq, qa, ql, zne, zfew, k⟩ := h
    refine ⟨_, (pss_cons (ps_set (i := 3) scLawForms.nd rfl (by first | exact Or.inl rfl | exact Or.inr rfl) (pe_lst pa_nil))
      (pss_cons (ps_for PassesOwn.never rfl (pi_tup (pv 1)) (pg_name (i := 4) scLawForms.nd rfl (by first | exact Or.inl rfl | exact Or.inr rfl)) (pss_one (ps_if (pt_cmpR op_eq (pe_callH HT (hr.mono (by decide)) rfl (pa_cons (pv 0) (pa_cons pe_int pa_nil))) pe_int (nomark _)) (pss_one (ps_expr (pe_bm PySem.F.plainAttrs_list PySem.F.slot_list_append PySem.F.type_list_append mt_append (pv 3) (pa_cons pe_non pa_nil)))) (pss_one (ps_expr (pe_bm PySem.F.plainAttrs_list PySem.F.slot_list_append PySem.F.type_list_append mt_append (pv 3) (pa_cons (pe_ix ix_list (pv 2) (pe_callH HT (hr.mono (by decide)) rfl (pa_cons (pv 0) (pa_cons (pe_callB call_len rfl T.len PySem.boot_len (pa_cons (pv 2) pa_nil)) pa_nil))) (fun _ _ => rfl)) pa_nil)))))))
      (pss_one (ps_ret (pe_callTy call_tuple_of rfl T.tuple (by decide +kernel) (pa_cons (pv 3) pa_nil)))))), ?_⟩
    refine ⟨Nat.zero_le _, fun fr hfr => ?_⟩
    have d1 : Deck (upd H fr (.lst [])) a l := hd.keep (Same.new hfr)
    have s1 : Same H (upd H fr (.lst [])) := Same.new hfr
    have f1 : Fr a H (upd H fr (.lst [])) := Fr.new hfr
    have nf := hd.ne hfr
    have mf := hd.ne' hfr
    have e1 : (upd H fr (.lst [])) fr = some (.lst []) := upd_same
    have pf : p ≠ fr := fun z => by rw [← z, hp] at hfr; cases hfr
    have qf : q ≠ fr := fun z => by rw [← z, hq] at hfr; cases hfr
    generalize upd H fr (.lst []) = H1 at *
    refine ⟨_, rfl, p, rfl, ⟨_, sqT (s1 _ _ hp)⟩, ?_⟩
    refine for_tup (K := K) (a := p) (xs := ys) (fun i σ H3 => ∃ (fs : List (Option Str)) (v : Option V), σ = [some (.ref a), some (.ref p), some (.ref q), some (.ref fr), v] ∧ H3 fr = some (.lst (fs.map formV)) ∧ Deck H3 a l ∧ Fr a H H3 ∧ H3 p = some (.tup ys) ∧ H3 q = some (.lst (zs.map V.str)) ∧ fs.length = i ∧ ∀ z, some z ∈ fs → z ∈ zs)
      ⟨[], none, rfl, e1, d1, f1, s1 _ _ hp, s1 _ _ hq, rfl, nofun⟩ (fun i σ H3 _ ⟨_, _, _, _, _, _, h, _⟩ => sqT h) ?_ ?_
    · rintro i y σ H3 hi ⟨fs, v, rfl, e3, hd3, f3, hp3, hq3, len, told⟩
      have lt := (List.getElem?_eq_some_iff.mp hi).1
      refine ⟨_, rfl, a, l, 6, rfl, hd3, by decide, by decide, fun d H4 d0 d6 hd4 f4 _ => ?_⟩
      have e4 := f4 _ _ e3 nf
      have hp4 := hd3.tfr f4 _ _ hp3
      have hq4 := f4 _ _ hq3 qa
      refine ⟨rfl, _, rfl, ?_⟩
      refine ite2 (fun _ => ?_) (fun _ => ?_)
      · refine ⟨_, rfl, .inl ⟨rfl, _, SqL.of e4⟩, fr, _, _, rfl, rfl, e4, by rw [List.length_map]; exact small1000 (by omega), ?_⟩
        refine ⟨fs ++ [none], _, rfl, by rw [upd_same, List.map_append]; rfl, hd4.put nf mf, fun b o h n => by rw [upd_ne (ne_of_none h hfr)]; exact f4 _ _ (f3 _ _ h n) n, by rw [upd_ne pf]; exact hp4, by rw [upd_ne qf]; exact hq4, by rw [List.length_append, len]; rfl, fun z hz => ?_⟩
        rcases List.mem_append.mp hz with h | h
        · exact told z h
        · cases List.mem_singleton.mp h
      · refine ⟨_, rfl, .inl ⟨rfl, _, SqL.of e4⟩, _, rfl, _, rfl, _, rfl, _, zs.length, rfl, .inl ⟨_, SqL.of hq4, by rw [List.length_map]⟩, a, l, _, rfl, hd4, by have := List.length_pos_iff.mpr zne; omega, by omega, fun d2 H5 e0 e6 hd5 f5 _ => ?_⟩
        have e5 := f5 _ _ e4 nf
        have hp5 := hd4.tfr f5 _ _ hp4
        have hq5 := f5 _ _ hq4 qa
        obtain ⟨j, rfl⟩ : ∃ j : Nat, d2 = (j : Int) := ⟨d2.toNat, by omega⟩
        have jl : j < zs.length := by omega
        refine ⟨q, _, _, _, rfl, rfl, SqL.of hq5, at_of (j := j) rfl (by rw [List.getElem?_map, List.getElem?_eq_getElem jl] <;> rfl), ?_⟩
        refine ⟨fr, _, _, rfl, rfl, e5, by rw [List.length_map]; exact small1000 (by omega), ?_⟩
        refine ⟨fs ++ [some zs[j]], _, rfl, by rw [upd_same, List.map_append]; rfl, hd5.put nf mf, fun b o h n => by rw [upd_ne (ne_of_none h hfr)]; exact f5 _ _ (f4 _ _ (f3 _ _ h n) n) n, by rw [upd_ne pf]; exact hp5, by rw [upd_ne qf]; exact hq5, by rw [List.length_append, len]; rfl, fun z hz => ?_⟩
        rcases List.mem_append.mp hz with h | h
        · exact told z h
        · rw [Option.some.inj (List.mem_singleton.mp h)]
          exact List.getElem_mem jl
    · rintro σ H3 ⟨fs, v, rfl, e3, hd3, f3, hp3, hq3, len, told⟩
      refine ⟨_, rfl, fr, _, rfl, .inl ⟨SqL.of e3, fun r free => k r fs _ upd_same len told (hd3.keep (Same.new free)) (f3.trans (Fr.new free))⟩⟩
end
end Xci

namespace Xci
open PySem L2

section
variable {P : Program} {w : World} {K : PySem.W.Frag} {mg : Str → Option Value} {base : Heap}
abbrev sLawIn : Stmt := top 53
theorem scLawIn : FnScope ["one", "other", "mark"] ["one", "other"] (defScope sLawIn) := ⟨rfl, rfl, rfl, by decide +kernel, rfl, by decide +kernel, by decide +kernel⟩

theorem out_nil (ms ns : List Int) : decide (V.int (((ms.filter fun m => !decide (m ∈ ns)).length : Nat) : Int) = V.int 0) = inside ms ns := by
  unfold inside
  induction ms with
  | nil => rfl
  | cons m r ih =>
    rw [List.all_cons, List.filter_cons]
    by_cases h : m ∈ ns
    · simp only [h, decide_true, Bool.not_true, Bool.true_and]
      exact ih
    · simp [h]
      omega
theorem ok_in {f : Addr} {fd : FuncData} (F : Fun K "_law_in" "_law_in" sLawIn f fd) (T : Txt mg) : FnOk P w K mg base CX0 1 f fd ["one", "other"] spIn := by
  refine F.ok scLawIn (fun vs H Q E h => ?_) (fun cdv A outer s H vs Q E hr h => ?_)
  · obtain ⟨u, v, ms, ns, rfl, _⟩ := h
    rfl
  · obtain ⟨u, v, ms, ns, rfl, ⟨p, rfl, hp⟩, ⟨q, rfl, hq⟩, hl, k⟩ := h
    refine ⟨_, (pss_one (ps_ret (pe_cmpR op_eq (pe_callB call_len rfl T.len PySem.boot_len (pa_cons (pe_lc (own := [("mark", 2)]) rfl scLawIn.nd (pi_tup (pv 0)) (blkOk_by (N := ["one", "other", "mark"]) (sc := defScope sLawIn) (by decide +kernel)) (fun _ _ _ _ _ => (pg_name (i := 2) scLawIn.nd rfl (by first | exact Or.inl rfl | exact Or.inr rfl))) (fun _ _ _ _ _ => pts_one (pt_cmpR (show OpR _ _ (rIn K true) from op_notIn_seq) (pv 2) (pv 1) (by with_unfolding_all rfl))) (fun _ _ _ _ _ => (pv 2))) pa_nil)) pe_int (nomark _)))), ?_⟩
    refine ⟨_, rfl, p, rfl, ⟨_, sqT hp⟩, fun D hD => ?_⟩
    refine lc_tup (K := K) (a := p) (xs := ms.map V.int) (fun i H4 => Same H H4 ∧ H4 D = some (.lst (((ms.take i).filter fun m => !decide (m ∈ ns)).map V.int))) ⟨Same.new hD, upd_same⟩ (fun i H4 _ ⟨e, _⟩ => sqT (e _ _ hp)) ?_ ?_
    · rintro i y H4 hi ⟨sm, e4⟩
      obtain ⟨m, hm, rfl⟩ := int_of hi
      refine ⟨rfl, _, rfl, _, rfl, q, _, rfl, .inr (sqT (sm _ _ hq)), rfl, flat_ints ns, _, rfl, ?_⟩
      rw [inV_int]
      have et : ms.take (i + 1) = ms.take i ++ [m] := by rw [List.take_add_one, hm]; rfl
      refine ite2 (fun hn => ?_) (fun hn => ?_)
      · have hn' : (!decide (m ∈ ns)) = true := hn
        refine ⟨_, rfl, _, e4, ?_, fun b o h => by rw [upd_ne (ne_of_none h hD)]; exact sm b o h, ?_⟩
        · rw [List.length_map]
          exact small1000 (Nat.le_trans (List.length_filter_le _ _) (by rw [List.length_take]; omega))
        · rw [upd_same, et, List.filter_append, List.map_append]
          simp only [List.filter_cons, hn', if_true, List.filter_nil, List.map_cons, List.map_nil]
      · have hn' : (!decide (m ∈ ns)) = false := by
          cases hh : (!decide (m ∈ ns)) with
          | false => rfl
          | true => exact absurd hh hn
        refine ⟨sm, ?_⟩
        rw [e4, et, List.filter_append]
        simp [List.filter_cons, hn']
    · rintro H4 ⟨sm, e4⟩
      rw [List.length_map, List.take_length] at e4
      refine ⟨_, _, rfl, .inl ⟨_, SqL.of e4, rfl⟩, rfl, ?_⟩
      rw [List.length_map, out_nil]
      exact k H4 sm
end
end Xci

namespace Xci
open PySem L2

section
variable {P : Program} {w : World} {K : PySem.W.Frag} {mg : Str → Option Value} {base : Heap}
abbrev sLawMarks : Stmt := top 55
theorem scLawMarks : FnScope ["deck", "cells", "mark", "cell"] ["deck", "cells"] (defScope sLawMarks) := ⟨rfl, rfl, rfl, by decide +kernel, rfl, by decide +kernel, by decide +kernel⟩

theorem ok_marks {f : Addr} {fd : FuncData} (F : Fun K "_law_marks" "_law_marks" sLawMarks f fd) (T : Txt mg) (HT : Has P w K mg base "_law_take" ["deck", "many"] 1 spTake) : FnOk P w K mg base CX0 2 f fd ["deck", "cells"] (spMarks K) := by
  refine F.ok scLawMarks (fun vs H Q E h => ?_) (fun cdv A outer s H vs Q E hr h => ?_)
  · obtain ⟨a, ld, p, ys, cells, rfl, _⟩ := h
    rfl
  · obtain ⟨a, ld, p, ys, cells, rfl, hd, npa, hS, mk, hne, hlen, hok, k⟩ := h
    refine ⟨_, (pss_cons (ps_if (pt_cmpR op_eq (pe_callH HT (hr.mono (by decide)) rfl (pa_cons (pv 0) (pa_cons pe_int pa_nil))) pe_int (nomark _)) (pss_one (ps_ret (pe_callTy call_tuple_of rfl T.tuple (by decide +kernel) (pa_cons (pe_lc (own := [("mark", 2)]) rfl scLawMarks.nd (pi_range1 rfl T.range (pa_cons pe_int pa_nil)) (blkOk_by (N := ["deck", "cells", "mark", "cell"]) (sc := defScope sLawMarks) (by decide +kernel)) (fun _ _ _ _ _ => (pg_name (i := 2) scLawMarks.nd rfl (by first | exact Or.inl rfl | exact Or.inr rfl))) (fun _ _ _ _ _ => pts_one (pt_cmpR op_eq (pe_callH HT (hr.mono (by decide)) rfl (pa_cons (pv 0) (pa_cons pe_int pa_nil))) pe_int (nomark _))) (fun _ _ _ _ _ => (pv 2))) pa_nil)))) pss_nil)
      (pss_cons (ps_set (i := 3) scLawMarks.nd rfl (by first | exact Or.inl rfl | exact Or.inr rfl) (pe_ix (IxR.or ix_list ix_tup) (pv 1) (pe_callH HT (hr.mono (by decide)) rfl (pa_cons (pv 0) (pa_cons (pe_callB call_len rfl T.len PySem.boot_len (pa_cons (pv 1) pa_nil)) pa_nil))) (fun _ _ => rfl)))
      (pss_one (ps_ret (pe_callTy call_tuple_of rfl T.tuple (by decide +kernel) (pa_cons (pe_lc (own := [("mark", 2)]) rfl scLawMarks.nd (pi_tup (pv 3)) (blkOk_by (N := ["deck", "cells", "mark", "cell"]) (sc := defScope sLawMarks) (by decide +kernel)) (fun _ _ _ _ _ => (pg_name (i := 2) scLawMarks.nd rfl (by first | exact Or.inl rfl | exact Or.inr rfl))) (fun _ _ _ _ _ => pts_one (pt_cmpR op_gt (pe_callH HT (hr.mono (by decide)) rfl (pa_cons (pv 0) (pa_cons pe_int pa_nil))) pe_int (nomark _))) (fun _ _ _ _ _ => (pv 2))) pa_nil)))))), ?_⟩
    refine ⟨_, rfl, a, ld, _, rfl, hd, by decide, by decide, fun d H1 d0 d1 hd1 f1 _ => ⟨rfl, _, rfl, ?_⟩⟩
    have fin : ∀ (D : Addr) (ms : List Int) (H4 : Hp), H4 D = some (.lst (ms.map V.int)) → MarksOk 6 ms → Deck H4 a ld → Fr a H H4 → ∀ l : Addr, H4 l = Option.none → Q (.ref l) (upd H4 l (.tup (ms.map V.int))) := by
      intro D ms H4 e4 ok hd4 f4 l hl
      exact k _ ms _ ⟨l, rfl, upd_same⟩ ok (hd4.keep (Same.new hl)) (f4.trans (Fr.new hl))
    refine ite2 (fun _ => ?_) (fun _ => ?_)
    · refine ⟨_, rfl, by decide, by decide, fun D hD => ?_⟩
      have hD0 := hd1.free f1 hD
      have nD := hd.ne hD0
      have mD := hd.ne' hD0
      refine lc_range (n := 6) (fun i H4 => ∃ ms : List Int, Deck H4 a ld ∧ Fr a H H4 ∧ H4 D = some (.lst (ms.map V.int)) ∧ ms.length ≤ i ∧ MarksOk (i : Int) ms) ⟨[], hd1.keep (Same.new hD), f1.trans (Fr.new hD), upd_same, Nat.le_refl _, .nil, by simp, by simp⟩ ?_ ?_
      · rintro i H4 hi ⟨ms, hd4, f4, e4, hl, ok⟩
        refine ⟨rfl, _, rfl, a, ld, _, rfl, hd4, by decide, by decide, fun d H5 d0 d1 hd5 f5 _ => ⟨rfl, _, rfl, ?_⟩⟩
        refine ite2 (fun _ => ?_) (fun _ => ?_)
        · refine ⟨_, rfl, _, f5 _ _ e4 nD, by rw [List.length_map]; exact small1000 (by omega), ms ++ [0 + (i : Int)], hd5.put nD mD, fun b o h n => by rw [upd_ne (ne_of_none h hD0)]; exact f5 _ _ (f4 _ _ h n) n, by rw [upd_same, List.map_append]; rfl, by rw [List.length_append]; exact Nat.succ_le_succ hl, ?_⟩
          rw [Int.zero_add]
          refine ⟨List.pairwise_append.mpr ⟨ok.up, by simp, fun x hx y hy => by rw [List.mem_singleton.mp hy]; exact ok.hi x hx⟩, fun m hm => ?_, fun m hm => ?_⟩
          · rcases List.mem_append.mp hm with h | h
            · exact ok.lo m h
            · rw [List.mem_singleton.mp h]; omega
          · rcases List.mem_append.mp hm with h | h
            · have := ok.hi m h; omega
            · rw [List.mem_singleton.mp h]; omega
        · exact ⟨ms, hd5, f4.trans f5, f5 _ _ e4 nD, by omega, ok.le (by omega)⟩
      · rintro H4 ⟨ms, hd4, f4, e4, hl, ok⟩
        exact ⟨_, _, rfl, .inl ⟨SqL.of e4, fin D ms H4 e4 (by simpa using ok) hd4 f4⟩⟩
    · -- cell = cells[take(deck, len(cells))]
      have hcl : 0 < cells.length := List.length_pos_iff.mpr hne
      have hyl := Paired.length mk
      have hS1 : Sq0 H1 p ys := hS.fr f1 npa
      refine ⟨_, rfl, _, rfl, _, rfl, _, ys.length, rfl, hS1.sq.elim (fun h => .inl ⟨_, h, rfl⟩) (fun h => .inr ⟨_, h, rfl⟩), a, ld, _, rfl, hd1, by omega, by omega, fun d H2 d0 d1 hd2 f2 _ => ?_⟩
      obtain ⟨j, ej⟩ : ∃ j : Nat, d = (j : Int) := ⟨d.toNat, by omega⟩
      subst ej
      have hj : j < ys.length := by omega
      have hx : ys[j]? = some ys[j] := List.getElem?_eq_getElem hj
      have hS2 : Sq K H2 p ys := (hS1.fr f2 npa).sq
      have f02 := f1.trans f2
      obtain ⟨c, hc, tc⟩ := Paired.get (mk.keep (hd.tfr f02)) hx
      have okc := hok c (List.mem_of_getElem? hc)
      obtain ⟨tp, etp, htp⟩ := tc
      refine hS2.elim (fun h => .inl ⟨p, ys, _, _, rfl, rfl, h, at_of rfl hx, ?_⟩) (fun h => .inr ⟨p, ys, _, _, rfl, rfl, h, at_of rfl hx, ?_⟩)
      all_goals
        rw [etp]
        refine ⟨_, rfl, tp, rfl, ⟨_, sqT htp⟩, fun D hD => ?_⟩
        have hD0 := hd2.free f02 hD
        have nD := hd.ne hD0
        have mD := hd.ne' hD0
        have ntp : tp ≠ a := by
          obtain ⟨zz, hz⟩ := hd2.is
          exact ne_of htp hz (by intro q; cases q)
        refine lc_tup (K := K) (a := tp) (xs := c.map V.int) (fun i H4 => ∃ ms : List Int, Deck H4 a ld ∧ Fr a H H4 ∧ H4 tp = some (.tup (c.map V.int)) ∧ H4 D = some (.lst (ms.map V.int)) ∧ ms.Sublist (c.take i)) ⟨[], hd2.keep (Same.new hD), f02.trans (Fr.new hD), (Same.new hD) _ _ htp, upd_same, List.nil_sublist _⟩ (fun i H4 _ ⟨_, _, _, e, _⟩ => sqT e) ?_ ?_
        · rintro i y H4 hi ⟨ms, hd4, f4, t4, e4, sb⟩
          obtain ⟨m, hm, rfl⟩ := int_of hi
          have et : c.take (i + 1) = c.take i ++ [m] := by rw [List.take_add_one, hm]; rfl
          refine ⟨rfl, _, rfl, a, ld, _, rfl, hd4, by decide, by decide, fun d H5 d0 d1 hd5 f5 _ => ⟨_, _, rfl, rfl, _, rfl, ?_⟩⟩
          have t5 := hd4.tfr f5 _ _ t4
          refine ite2 (fun _ => ?_) (fun _ => ?_)
          · have hl := (sb.trans (List.take_sublist _ _)).length_le
            have hcl := okc.len
            refine ⟨_, rfl, _, f5 _ _ e4 nD, by rw [List.length_map]; exact small1000 (by omega), ms ++ [m], hd5.put nD mD, fun b o h n => by rw [upd_ne (ne_of_none h hD0)]; exact f5 _ _ (f4 _ _ h n) n, by rw [upd_ne (ne_of t5 (f5 _ _ e4 nD) (by intro q; cases q))]; exact t5, by rw [upd_same, List.map_append]; rfl, by rw [et]; exact sb.append (List.Sublist.refl _)⟩
          · exact ⟨ms, hd5, f4.trans f5, t5, f5 _ _ e4 nD, by rw [et]; exact sb.trans (List.sublist_append_left _ _)⟩
        · rintro H4 ⟨ms, hd4, f4, t4, e4, sb⟩
          exact ⟨_, _, rfl, .inl ⟨SqL.of e4, fin D ms H4 e4 (okc.sub (sb.trans (List.take_sublist _ _))) hd4 f4⟩⟩
end
end Xci

namespace Xci
open PySem L2

section
variable {P : Program} {w : World} {K : PySem.W.Frag} {mg : Str → Option Value} {base : Heap}
abbrev sLawEntries : Stmt := top 56
theorem scLawEntries : FnScope ["deck", "cells", "words", "most", "found", "turn"] ["deck", "cells", "words", "most"] (defScope sLawEntries) := ⟨rfl, rfl, rfl, by decide +kernel, rfl, by decide +kernel, by decide +kernel⟩

theorem ok_entries {f : Addr} {fd : FuncData} (F : Fun K "_law_entries" "_law_entries" sLawEntries f fd) (T : Txt mg) (HT : Has P w K mg base "_law_take" ["deck", "many"] 1 spTake) (HM : Has P w K mg base "_law_marks" ["deck", "cells"] 2 (spMarks K)) :
    FnOk P w K mg base CX0 3 f fd ["deck", "cells", "words", "most"] (spEntries K) := by
  refine F.ok scLawEntries (fun vs H Q E h => ?_) (fun cdv A outer s H vs Q E hr h => ?_)
  · obtain ⟨a, ld, p, qw, ys, cells, zs, m, rfl, _⟩ := h
    rfl
  · obtain ⟨a, ld, p, qw, ys, cells, zs, m, rfl, hd, npa, hS, mk, hne, hcl, hok, ezs, nqa, zne, zl, zok, m0, m1, k⟩ := h
    refine ⟨_, (pss_cons (ps_set (i := 4) scLawEntries.nd rfl (by first | exact Or.inl rfl | exact Or.inr rfl) (pe_lst pa_nil))
      (pss_cons (ps_for PassesOwn.never rfl (pi_range1 rfl T.range (pa_cons (pe_callH HT (hr.mono (by decide)) rfl (pa_cons (pv 0) (pa_cons (pe_op op_add (pv 3) pe_int) pa_nil))) pa_nil)) (pg_name (i := 5) scLawEntries.nd rfl (by first | exact Or.inl rfl | exact Or.inr rfl)) (pss_one (ps_if (PW.pt (pw_and (pt_cmpR op_gt (pe_callB call_len rfl T.len PySem.boot_len (pa_cons (pv 4) pa_nil)) pe_int (nomark _)) (pw_and1 (pt_cmpR op_eq (pe_callH HT (hr.mono (by decide)) rfl (pa_cons (pv 0) (pa_cons pe_int pa_nil))) pe_int (nomark _))))) (pss_one (ps_expr (pe_bm PySem.F.plainAttrs_list PySem.F.slot_list_append PySem.F.type_list_append mt_append (pv 4) (pa_cons (pe_tup (pa_cons (pe_ix ix_tup (pe_ix ix_list (pv 4) (pe_callH HT (hr.mono (by decide)) rfl (pa_cons (pv 0) (pa_cons (pe_callB call_len rfl T.len PySem.boot_len (pa_cons (pv 4) pa_nil)) pa_nil))) (fun _ _ => rfl)) pe_int (fun _ _ => rfl)) (pa_cons (pe_ix ix_list (pv 2) (pe_callH HT (hr.mono (by decide)) rfl (pa_cons (pv 0) (pa_cons (pe_callB call_len rfl T.len PySem.boot_len (pa_cons (pv 2) pa_nil)) pa_nil))) (fun _ _ => rfl)) pa_nil))) pa_nil)))) (pss_one (ps_expr (pe_bm PySem.F.plainAttrs_list PySem.F.slot_list_append PySem.F.type_list_append mt_append (pv 4) (pa_cons (pe_tup (pa_cons (pe_callH HM (hr.mono (by decide)) rfl (pa_cons (pv 0) (pa_cons (pv 1) pa_nil))) (pa_cons (pe_ix ix_list (pv 2) (pe_callH HT (hr.mono (by decide)) rfl (pa_cons (pv 0) (pa_cons (pe_callB call_len rfl T.len PySem.boot_len (pa_cons (pv 2) pa_nil)) pa_nil))) (fun _ _ => rfl)) pa_nil))) pa_nil)))))))
      (pss_one (ps_ret (pe_callTy call_tuple_of rfl T.tuple (by decide +kernel) (pa_cons (pv 4) pa_nil)))))), ?_⟩
    refine ⟨Nat.zero_le _, fun q hq => ?_⟩
    have hd1 : Deck (upd H q (.lst [])) a ld := hd.keep (Same.new hq)
    have f1 : Fr a H (upd H q (.lst [])) := Fr.new hq
    have nq := hd.ne hq
    have mq := hd.ne' hq
    have eq : (upd H q (.lst [])) q = some (.lst []) := upd_same
    generalize upd H q (.lst []) = H1 at *
    have npq : p ≠ q := hS.ne hq
    have nqq : qw ≠ q := ne_of_none ezs hq
    have hS1 : Sq0 H1 p ys := hS.fr f1 npa
    refine ⟨_, rfl, _, rfl, _, _, rfl, rfl, a, ld, _, rfl, hd1, by omega, by omega, fun dn H2 n0 n1 hd2 f2 _ => ⟨_, rfl, by omega, by omega, ?_⟩⟩
    have t0 : TFr H H2 := hd.tfr (f1.trans f2)
    refine for_range (n := dn.toNat) (fun i σ H3 => ∃ (vs : List V) (es : List Ent) (v : Option V), σ = [some (.ref a), some (.ref p), some (.ref qw), some (.int m), some (.ref q), v] ∧ H3 q = some (.lst vs) ∧ Ents H3 vs es ∧ es.length ≤ i ∧ (∀ e ∈ es, EntOk e) ∧ Deck H3 a ld ∧ Fr a H H3)
      ⟨[], [], none, rfl, f2 _ _ eq nq, .nil, Nat.zero_le _, by simp, hd2, f1.trans f2⟩ ?_ ?_
    · rintro i σ H3 hi ⟨vs, es, v, rfl, e3, ents, hl, eok, hd3, f3⟩
      have hvl := Paired.length ents
      have ez3 := f3 _ _ ezs nqa
      have zlen : 0 < zs.length := List.length_pos_iff.mpr zne
      have fin : ∀ (u : V) (ms : List Int) (z : Str) (H5 : Hp), Xci.Mk H5 u ms → EntOk (ms, z) → H5 q = some (.lst vs) → Deck H5 a ld → Fr a H3 H5 → ∀ r : Addr, H5 r = Option.none →
          (∃ (vs' : List V) (es' : List Ent) (v : Option V), ([some (.ref a), some (.ref p), some (.ref qw), some (.int m), some (.ref q), some (.int (0 + (i : Int)))] : L2.St) = [some (.ref a), some (.ref p), some (.ref qw), some (.int m), some (.ref q), v] ∧
            (upd (upd H5 r (.tup [u, .str z])) q (.lst (vs ++ [.ref r]))) q = some (.lst vs') ∧ Ents (upd (upd H5 r (.tup [u, .str z])) q (.lst (vs ++ [.ref r]))) vs' es' ∧ es'.length ≤ i + 1 ∧ (∀ e ∈ es', EntOk e) ∧ Deck (upd (upd H5 r (.tup [u, .str z])) q (.lst (vs ++ [.ref r]))) a ld ∧ Fr a H (upd (upd H5 r (.tup [u, .str z])) q (.lst (vs ++ [.ref r])))) := by
        intro u ms z H5 hu ok e5 hd5 f5 r hr
        have s6 : Same H5 (upd H5 r (.tup [u, .str z])) := Same.new hr
        have tf : TFr (upd H5 r (.tup [u, .str z])) (upd (upd H5 r (.tup [u, .str z])) q (.lst (vs ++ [.ref r]))) := TFr.lst (s6 _ _ e5)
        refine ⟨vs ++ [.ref r], es ++ [(ms, z)], _, rfl, upd_same, ?_, by rw [List.length_append]; exact Nat.succ_le_succ hl, fun e he => ?_, (hd5.keep s6).put nq mq, fun b o h n => ?_⟩
        · exact Paired.app (Ents.keep (((hd3.tfr f5).trans (TFr.same s6)).trans tf) ents) (Paired.one ⟨u, ⟨r, rfl, tf _ _ upd_same⟩, (Tup.keep (TFr.same s6) hu).keep tf⟩)
        · rcases List.mem_append.mp he with h | h
          · exact eok e h
          · rw [List.mem_singleton.mp h]; exact ok
        · rw [upd_ne (ne_of_none h hq)]; exact s6 _ _ (f5 _ _ (f3 _ _ h n) n)
      have word : ∀ d : Int, 0 ≤ d → d < (zs.length : Int) → ∃ (j : Nat) (z : Str), d = (j : Int) ∧ (zs.map V.str)[j]? = some (.str z) ∧ WordOk z := by
        intro d h0 h1
        have hj : d.toNat < zs.length := by omega
        exact ⟨d.toNat, zs[d.toNat], by omega, by rw [List.getElem?_map, List.getElem?_eq_getElem hj]; rfl, zok _ (List.getElem_mem hj)⟩
      refine ⟨_, rfl, _, vs.length, rfl, .inl ⟨_, SqL.of e3, rfl⟩, _, _, rfl, rfl, _, rfl, ?_⟩
      refine ite2 (fun hc => ?_) (fun _ => ?_)
      · have hvp : 0 < vs.length := by simpa using hc
        refine ⟨_, rfl, a, ld, _, rfl, hd3, by decide, by decide, fun d H4 d0 d1 hd4 f4 _ => ⟨rfl, _, rfl, ?_⟩⟩
        have e4 := f4 _ _ e3 nq
        refine ite2 (fun _ => ?_) (fun _ => ?_)
        · refine ⟨_, rfl, .inl ⟨rfl, _, SqL.of e4⟩, _, rfl, _, rfl, _, rfl, _, vs.length, rfl, .inl ⟨_, SqL.of e4, rfl⟩, a, ld, _, rfl, hd4, by omega, by omega, fun d5 H5 d50 d51 hd5 f5 _ => ?_⟩
          have e5 := f5 _ _ e4 nq
          have f35 := f4.trans f5
          obtain ⟨j, ej⟩ : ∃ j : Nat, d5 = (j : Int) := ⟨d5.toNat, by omega⟩
          subst ej
          have hj : j < vs.length := by omega
          have hx : vs[j]? = some vs[j] := List.getElem?_eq_getElem hj
          obtain ⟨e, he, u, ⟨r0, er0, hr0⟩, mu⟩ := Paired.get (Ents.keep (hd3.tfr f35) ents) hx
          have ek := eok e (List.mem_of_getElem? he)
          refine ⟨q, _, _, _, rfl, rfl, SqL.of e5, at_of rfl hx, ?_⟩
          rw [er0]
          refine ⟨r0, _, _, _, rfl, rfl, sqT hr0, at_of (j := 0) rfl rfl, ?_⟩
          have ez5 : H5 qw = some (.lst (zs.map V.str)) := f35 _ _ ez3 nqa
          refine ⟨_, rfl, _, rfl, _, rfl, _, zs.length, rfl, .inl ⟨_, SqL.of ez5, by rw [List.length_map]⟩, a, ld, _, rfl, hd5, by omega, by omega, fun d6 H6 d60 d61 hd6 f6 _ => ?_⟩
          obtain ⟨j6, z, ej6, hz6, wz⟩ := word d6 d60 d61
          have ez6 := f6 _ _ ez5 nqa
          refine ⟨qw, _, _, _, rfl, rfl, SqL.of ez6, at_of ej6 hz6, (by show 2 ≤ sizeLine; decide), fun r hr => ?_⟩
          have e6 := f6 _ _ e5 nq
          refine ⟨q, vs, _, rfl, rfl, (Same.new hr) _ _ e6, small1000 (by omega), ?_⟩
          exact fin u e.1 z H6 (mu.keep (hd5.tfr f6)) ⟨ek.ms, wz⟩ e6 hd6 (f35.trans f6) r hr
        · refine ⟨_, rfl, .inl ⟨rfl, _, SqL.of e4⟩, _, rfl, _, rfl, a, ld, p, ys, cells, rfl, hd4, npa, hS.fr (f3.trans f4) npa, mk.keep (hd.tfr (f3.trans f4)), hne, hcl, hok, fun u ms H5 mu ok hd5 f5 => ?_⟩
          have e5 := f5 _ _ e4 nq
          have f35 := f4.trans f5
          have ez5 : H5 qw = some (.lst (zs.map V.str)) := f35 _ _ ez3 nqa
          refine ⟨_, rfl, _, rfl, _, rfl, _, zs.length, rfl, .inl ⟨_, SqL.of ez5, by rw [List.length_map]⟩, a, ld, _, rfl, hd5, by omega, by omega, fun d6 H6 d60 d61 hd6 f6 _ => ?_⟩
          obtain ⟨j6, z, ej6, hz6, wz⟩ := word d6 d60 d61
          have ez6 := f6 _ _ ez5 nqa
          refine ⟨qw, _, _, _, rfl, rfl, SqL.of ez6, at_of ej6 hz6, (by show 2 ≤ sizeLine; decide), fun r hr => ?_⟩
          have e6 := f6 _ _ e5 nq
          refine ⟨q, vs, _, rfl, rfl, (Same.new hr) _ _ e6, small1000 (by omega), ?_⟩
          exact fin u ms z H6 (Tup.keep (hd5.tfr f6) mu) ⟨ok, wz⟩ e6 hd6 (f35.trans f6) r hr
      · refine ⟨_, rfl, .inl ⟨rfl, _, SqL.of e3⟩, _, rfl, _, rfl, a, ld, p, ys, cells, rfl, hd3, npa, hS.fr f3 npa, mk.keep (hd.tfr f3), hne, hcl, hok, fun u ms H5 mu ok hd5 f5 => ?_⟩
        have e5 := f5 _ _ e3 nq
        have ez5 : H5 qw = some (.lst (zs.map V.str)) := f5 _ _ ez3 nqa
        refine ⟨_, rfl, _, rfl, _, rfl, _, zs.length, rfl, .inl ⟨_, SqL.of ez5, by rw [List.length_map]⟩, a, ld, _, rfl, hd5, by omega, by omega, fun d6 H6 d60 d61 hd6 f6 _ => ?_⟩
        obtain ⟨j6, z, ej6, hz6, wz⟩ := word d6 d60 d61
        have ez6 := f6 _ _ ez5 nqa
        refine ⟨qw, _, _, _, rfl, rfl, SqL.of ez6, at_of ej6 hz6, (by show 2 ≤ sizeLine; decide), fun r hr => ?_⟩
        have e6 := f6 _ _ e5 nq
        refine ⟨q, vs, _, rfl, rfl, (Same.new hr) _ _ e6, small1000 (by omega), ?_⟩
        exact fin u ms z H6 (Tup.keep (hd5.tfr f6) mu) ⟨ok, wz⟩ e6 hd6 (f5.trans f6) r hr
    · rintro σ H3 ⟨vs, es, v, rfl, e3, ents, hl, eok, hd3, f3⟩
      refine ⟨_, rfl, q, vs, rfl, .inl ⟨SqL.of e3, fun r hr => ?_⟩⟩
      exact k r vs es _ upd_same (Ents.keep (TFr.new hr) ents) (by omega) eok (hd3.keep (Same.new hr)) (f3.trans (Fr.new hr))
end
end Xci

namespace Xci
open PySem L2

section
variable {P : Program} {w : World} {K : PySem.W.Frag} {mg : Str → Option Value} {base : Heap}
abbrev sLiesWithin : Stmt := top 13
theorem scLiesWithin : FnScope ["inner", "outer", "mark"] ["inner", "outer"] (defScope sLiesWithin) := ⟨rfl, rfl, rfl, by decide +kernel, rfl, by decide +kernel, by decide +kernel⟩

theorem ok_lies {f : Addr} {fd : FuncData} (F : Fun K "lies_within" "lies_within" sLiesWithin f fd) : FnOk P w K mg base CX0 1 f fd ["inner", "outer"] spLies := by
  refine F.ok scLiesWithin (fun vs H Q E h => ?_) (fun cdv A outer s H vs Q E hr h => ?_)
  · obtain ⟨u, v, ms, ns, rfl, _⟩ := h
    rfl
  · obtain ⟨u, v, ms, ns, rfl, ⟨p, rfl, hp⟩, ⟨q, rfl, hq⟩, k⟩ := h
    refine ⟨_, (pss_cons (ps_for PassesOwn.never rfl (pi_tup (pv 0)) (pg_name (i := 2) scLiesWithin.nd rfl (by first | exact Or.inl rfl | exact Or.inr rfl)) (pss_one (ps_if (pt_cmpR op_notIn_seq (pv 2) (pv 1) (by with_unfolding_all rfl)) (pss_one (ps_ret pe_bl)) pss_nil)))
      (pss_one (ps_ret pe_bl))), ?_⟩
    refine ⟨_, rfl, p, rfl, ⟨_, sqT hp⟩, for_tup (K := K) (a := p) (xs := ms.map V.int) (fun i σ H2 => H2 = H ∧ inside (ms.take i) ns = true ∧ ∃ v : Option V, σ = [some (.ref p), some (.ref q), v]) ⟨rfl, rfl, none, rfl⟩ (fun i σ H2 _ ⟨e, _⟩ => by rw [e]; exact sqT hp) ?_ ?_⟩
    · rintro i y σ H2 hi ⟨rfl, hin, v, rfl⟩
      obtain ⟨m, hm, rfl⟩ := int_of hi
      have mem := List.mem_of_getElem? hm
      refine ⟨_, rfl, _, rfl, q, _, rfl, .inr (sqT hq), rfl, flat_ints ns, _, rfl, ?_⟩
      rw [inV_int]
      refine ite2 (fun hn => ?_) (fun hn => ?_)
      · have hn' : ¬ m ∈ ns := by simpa using hn
        have e : inside ms ns = false := by
          cases hh : inside ms ns with
          | false => rfl
          | true => exact absurd (of_decide_eq_true (List.all_eq_true.mp hh m mem)) hn'
        rw [e] at k
        exact k
      · have hn' : m ∈ ns := by simpa using hn
        refine ⟨rfl, ?_, _, rfl⟩
        have et : ms.take (i + 1) = ms.take i ++ [m] := by rw [List.take_add_one, hm]; rfl
        unfold inside at hin ⊢
        rw [et, List.all_append, hin]
        simp [hn']
    · rintro σ H2 ⟨rfl, hin, v, rfl⟩
      rw [List.length_map, List.take_length] at hin
      rw [hin] at k
      exact k
abbrev sIsEntry : Stmt := top 26
theorem scIsEntry : FnScope ["thing"] ["thing"] (defScope sIsEntry) := ⟨rfl, rfl, rfl, by decide +kernel, rfl, by decide +kernel, by decide +kernel⟩

theorem ok_entry {f : Addr} {fd : FuncData} (F : Fun K "is_entry" "is_entry" sIsEntry f fd) (T : Txt mg) (c : Cst mg) (HC : Has P w K mg base "is_cell" ["many", "thing"] 3 spIsCell) (HF : Has P w K mg base "is_form" ["thing"] 1 spIsForm) : FnOk P w K mg base CX0 4 f fd ["thing"] spIsEntry := by
  refine F.ok scIsEntry (fun vs H Q E h => ?_) (fun cdv A outer s H vs Q E hr h => ?_)
  · obtain ⟨v, e, rfl, _⟩ := h
    rfl
  · obtain ⟨v, e, rfl, ⟨u, ⟨p, rfl, hp⟩, mu⟩, ok, k⟩ := h
    refine ⟨_, (pss_one (ps_ret (pe_and (pe_callB call_isi rfl T.isinstance (by decide +kernel) (pa_cons (pv 0) (pa_cons (pe_bltn rfl T.tuple (by decide +kernel) (v := V.ty "tuple") rfl) pa_nil))) (pe_and (pe_cmpR op_eq (pe_callB call_len rfl T.len PySem.boot_len (pa_cons (pv 0) pa_nil)) pe_int (nomark _)) (pe_and (pe_callH HC (hr.mono (by decide)) rfl (pa_cons (pe_gint rfl c.MARKS) (pa_cons (pe_ix ix_tup (pv 0) pe_int (fun _ _ => rfl)) pa_nil))) (pe_one (pe_callH HF (hr.mono (by decide)) rfl (pa_cons (pe_ix ix_tup (pv 0) pe_int (fun _ _ => rfl)) pa_nil)))))))), ?_⟩
    refine ⟨_, rfl, _, _, _, _, true, rfl, .ty _, .base (.tup hp), kit_ty (by decide +kernel), _, rfl, ?_⟩
    refine ⟨_, rfl, _, 2, rfl, .inr ⟨_, sqT hp, rfl⟩, rfl, _, rfl, ?_⟩
    refine ⟨_, rfl, p, _, _, _, rfl, rfl, sqT hp, at_of (j := 0) rfl rfl, _, u, e.1, rfl, mu, ok.ms, _, rfl, ?_⟩
    exact ⟨_, rfl, p, _, _, _, rfl, rfl, sqT hp, at_of (j := 1) rfl rfl, e.2, rfl, ok.w, k⟩
abbrev sAreEntries : Stmt := top 27
theorem scAreEntries : FnScope ["thing", "entry"] ["thing"] (defScope sAreEntries) := ⟨rfl, rfl, rfl, by decide +kernel, rfl, by decide +kernel, by decide +kernel⟩

theorem ok_are {f : Addr} {fd : FuncData} (F : Fun K "_are_entries" "_are_entries" sAreEntries f fd) (T : Txt mg) (c : Cst mg) (HE : Has P w K mg base "is_entry" ["thing"] 4 spIsEntry) : FnOk P w K mg base CX0 5 f fd ["thing"] spAreEntries := by
  refine F.ok scAreEntries (fun vs H Q E h => ?_) (fun cdv A outer s H vs Q E hr h => ?_)
  · obtain ⟨p, ys, es, rfl, _⟩ := h
    rfl
  · obtain ⟨p, ys, es, rfl, hp, ents, ok, hl, k⟩ := h
    refine ⟨_, (pss_cons (ps_if (PW.pt (pw_or (pt_not (pt_val (pe_callB call_isi rfl T.isinstance (by decide +kernel) (pa_cons (pv 0) (pa_cons (pe_bltn rfl T.tuple (by decide +kernel) (v := V.ty "tuple") rfl) pa_nil))))) (pw_or1 (pt_cmpR op_gt (pe_callB call_len rfl T.len PySem.boot_len (pa_cons (pv 0) pa_nil)) (pe_gint rfl c.MOST_ENTRIES) (nomark _))))) (pss_one (ps_ret pe_bl)) pss_nil)
      (pss_cons (ps_for PassesOwn.never rfl (pi_tup (pv 0)) (pg_name (i := 1) scAreEntries.nd rfl (by first | exact Or.inl rfl | exact Or.inr rfl)) (pss_one (ps_if (pt_not (pt_val (pe_callH HE (hr.mono (by decide)) rfl (pa_cons (pv 1) pa_nil)))) (pss_one (ps_ret pe_bl)) pss_nil)))
      (pss_one (ps_ret pe_bl)))), ?_⟩
    have hyl := Paired.length ents
    refine ⟨_, rfl, _, _, _, _, true, rfl, .ty _, .base (.tup hp), kit_ty (by decide +kernel), _, rfl, ?_⟩
    refine iteF ?_
    refine ⟨_, rfl, _, ys.length, rfl, .inr ⟨_, sqT hp, rfl⟩, _, _, rfl, rfl, _, rfl, ?_⟩
    refine ite2 (fun hf => ?_) (fun _ => ?_)
    · have hf' : (40 : Int) < ((ys.length : Nat) : Int) := of_decide_eq_true hf
      omega
    refine ⟨_, rfl, p, rfl, ⟨_, sqT hp⟩, for_tup (K := K) (a := p) (xs := ys) (fun i σ H2 => H2 = H ∧ ∃ v : Option V, σ = [some (.ref p), v]) ⟨rfl, none, rfl⟩ (fun i σ H2 _ ⟨e, _⟩ => by rw [e]; exact sqT hp) ?_ ?_⟩
    · rintro i y σ H2 hi ⟨rfl, v, rfl⟩
      obtain ⟨e, he, ev⟩ := Paired.get ents hi
      refine ⟨_, rfl, y, e, rfl, ev, ok e (List.mem_of_getElem? he), _, rfl, ?_⟩
      exact iteF ⟨rfl, _, rfl⟩
    · rintro σ H2 ⟨rfl, v, rfl⟩
      exact k
abbrev sAreWeights : Stmt := top 28
theorem scAreWeights : FnScope ["manner", "thing", "weight"] ["manner", "thing"] (defScope sAreWeights) := ⟨rfl, rfl, rfl, by decide +kernel, rfl, by decide +kernel, by decide +kernel⟩

theorem ok_weights {f : Addr} {fd : FuncData} (F : Fun K "_are_weights" "_are_weights" sAreWeights f fd) (T : Txt mg) (c : Cst mg) (HB : Has P w K mg base "is_between" ["low", "high", "thing"] 2 spBetween) : FnOk P w K mg base CX0 3 f fd ["manner", "thing"] spAreWeights := by
  refine F.ok scAreWeights (fun vs H Q E h => ?_) (fun cdv A outer s H vs Q E hr h => ?_)
  · obtain ⟨man, wt, rfl, _⟩ := h
    rfl
  · obtain ⟨man, wt, rfl, hw, k⟩ := h
    refine ⟨_, (pss_cons (ps_if (pt_cmpR op_ne (pv 0) pe_str (nomark _)) (pss_one (ps_ret (pe_cmpR op_isN (pv 1) pe_non (nomark _)))) pss_nil)
      (pss_cons (ps_if (PW.pt (pw_or (pt_not (pt_val (pe_callB call_isi rfl T.isinstance (by decide +kernel) (pa_cons (pv 1) (pa_cons (pe_bltn rfl T.tuple (by decide +kernel) (v := V.ty "tuple") rfl) pa_nil))))) (pw_or1 (pt_cmpR op_ne (pe_callB call_len rfl T.len PySem.boot_len (pa_cons (pv 1) pa_nil)) (pe_gint rfl c.MARKS) (nomark _))))) (pss_one (ps_ret pe_bl)) pss_nil)
      (pss_cons (ps_for PassesOwn.never rfl (pi_tup (pv 1)) (pg_name (i := 2) scAreWeights.nd rfl (by first | exact Or.inl rfl | exact Or.inr rfl)) (pss_one (ps_if (pt_not (pt_val (pe_callH HB (hr.mono (by decide)) rfl (pa_cons pe_int (pa_cons (pe_gint rfl c.MOST_WEIGHT) (pa_cons (pv 2) pa_nil)))))) (pss_one (ps_ret pe_bl)) pss_nil)))
      (pss_one (ps_ret pe_bl))))), ?_⟩
    refine ⟨_, rfl, rfl, _, rfl, ?_⟩
    rcases hw with ⟨hn, rfl⟩ | ⟨rfl, ws, ⟨p, rfl, hp⟩, hl, hb⟩
    · refine ite2 (fun _ => ?_) (fun hf => ?_)
      · exact ⟨_, rfl, rfl, k⟩
      · refine absurd ?_ hf
        have : decide (V.str man = V.str "weights") = false := decide_eq_false fun e => hn (V.str.inj e)
        rw [this]
        rfl
    · refine ite2 (fun hf => ?_) (fun _ => ?_)
      · have e : decide (V.str "weights" = V.str "weights") = true := decide_eq_true rfl
        have hf' : (!decide (V.str "weights" = V.str "weights")) = true := hf
        rw [e] at hf'
        cases hf'
      refine ⟨_, rfl, _, _, _, _, true, rfl, .ty _, .base (.tup hp), kit_ty (by decide +kernel), _, rfl, ?_⟩
      refine iteF ?_
      refine ⟨_, rfl, _, 6, rfl, .inr ⟨_, sqT hp, by rw [List.length_map, hl]⟩, rfl, _, rfl, ?_⟩
      refine iteF ?_
      refine ⟨_, rfl, p, rfl, ⟨_, sqT hp⟩, for_tup (K := K) (a := p) (xs := ws.map V.int) (fun i σ H2 => H2 = H ∧ ∃ v : Option V, σ = [some (.str "weights"), some (.ref p), v]) ⟨rfl, none, rfl⟩ (fun i σ H2 _ ⟨e, _⟩ => by rw [e]; exact sqT hp) ?_ ?_⟩
      · rintro i y σ H2 hi ⟨rfl, v, rfl⟩
        obtain ⟨m, hm, rfl⟩ := int_of hi
        obtain ⟨b1, b2⟩ := hb m (List.mem_of_getElem? hm)
        refine ⟨_, rfl, _, _, m, rfl, _, rfl, ?_⟩
        have e : decide ((0 : Int) ≤ m ∧ m ≤ 1000000) = true := decide_eq_true ⟨b1, b2⟩
        refine ite2 (fun hf => ?_) (fun _ => ⟨rfl, _, rfl⟩)
        have hf' : (!decide ((0 : Int) ≤ m ∧ m ≤ 1000000)) = true := hf
        rw [e] at hf'
        cases hf'
      · rintro σ H2 ⟨rfl, v, rfl⟩
        exact k
end
end Xci

namespace Xci
open PySem L2

section
variable {P : Program} {w : World} {K : PySem.W.Frag} {mg : Str → Option Value} {base : Heap}
abbrev sBookInit : Stmt := inClass (top 25) 0
theorem scBookInit : FnScope ["self", "manner", "entries", "weights"] ["self", "manner", "entries", "weights"] (defScope sBookInit) := ⟨rfl, rfl, rfl, by decide +kernel, rfl, by decide +kernel, by decide +kernel⟩

theorem man_in {man : Str} (h : Man man) : inV (.str man) [.str "row", .str "within", .str "weights", .str "most"] = true := by
  rcases h with rfl | rfl | rfl | rfl <;> decide +kernel
theorem ok_book {f C aM : Addr} {fd : FuncData} (F : Fun K "__init__" "Book.__init__" sBookInit f fd) (T : Txt mg) (B : BkTxt K mg C aM) (HE : Has P w K mg base "_are_entries" ["thing"] 5 spAreEntries) (HW : Has P w K mg base "_are_weights" ["manner", "thing"] 3 spAreWeights) :
    FnOk P w K mg base CX0 6 f fd ["self", "manner", "entries", "weights"] (spBook C) := by
  refine F.ok scBookInit (fun vs H Q E h => ?_) (fun cdv A outer s H vs Q E hr h => ?_)
  · obtain ⟨x, dx, man, p, wt, ys, es, rfl, _⟩ := h
    rfl
  · obtain ⟨x, dx, man, p, wt, ys, es, rfl, hx, hm, hw, hp, ents, eok, el, k⟩ := h
    refine ⟨_, (pss_cons (ps_if (PW.pt (pw_or (pt_not (pt_val (pe_callB call_isi rfl T.isinstance (by decide +kernel) (pa_cons (pv 1) (pa_cons (pe_bltn rfl T.str (by decide +kernel) (v := V.ty "str") rfl) pa_nil))))) (pw_or1 (pt_cmpR op_notIn_seq (pv 1) (pe_glob (v := .ref aM) rfl B.mgM rfl) (by with_unfolding_all rfl))))) (pss_one ps_never) pss_nil)
      (pss_cons (ps_if (pt_not (pt_val (pe_callH HE (hr.mono (by decide)) rfl (pa_cons (pv 2) pa_nil)))) (pss_one ps_never) pss_nil)
      (pss_cons (ps_if (pt_not (pt_val (pe_callH HW (hr.mono (by decide)) rfl (pa_cons (pv 1) (pa_cons (pv 3) pa_nil))))) (pss_one ps_never) pss_nil)
      (pss_cons (ps_fld (pv 0) (pv 1) rfl)
      (pss_cons (ps_fld (pv 0) (pv 2) rfl)
      (pss_one (ps_fld (pv 0) (pv 3) rfl))))))), ?_⟩
    refine ⟨_, rfl, _, _, _, _, true, rfl, .ty _, .base (.str _), kit_ty (by decide +kernel), _, rfl, ?_⟩
    refine iteF ?_
    refine ⟨_, rfl, aM, _, rfl, .inr (B.man H), rfl, rfl, _, rfl, ?_⟩
    rw [man_in hm]
    refine iteF ?_
    refine ⟨_, rfl, p, ys, es, rfl, hp, ents, eok, el, _, rfl, ?_⟩
    refine iteF ?_
    refine ⟨_, rfl, _, rfl, man, wt, rfl, hw, _, rfl, ?_⟩
    refine iteF ?_
    refine ⟨_, rfl, _, rfl, x, C, dx, [], rfl, hx, B.cl, B.nM, (by show 0 < 1000; decide), ?_⟩
    refine ⟨_, rfl, _, rfl, x, C, dx, _, rfl, upd_same, B.cl, B.nE, (by show 1 < 1000; decide), ?_⟩
    refine ⟨_, rfl, _, rfl, x, C, dx, _, rfl, upd_same, B.cl, B.nW, (by rw [put1, put2]; show 2 < 1000; decide), ?_⟩
    refine k _ ⟨dx, ?_⟩ fun b o e hb => ?_
    · rw [upd_same, put1, put2, put3]
      rfl
    · rw [upd_ne hb, upd_ne hb, upd_ne hb]
      exact e
abbrev sFitting : Stmt := top 29
theorem scFitting : FnScope ["book", "cell", "number", "entry"] ["book", "cell"] (defScope sFitting) := ⟨rfl, rfl, rfl, by decide +kernel, rfl, by decide +kernel, by decide +kernel⟩

theorem ok_fitting {f C aM : Addr} {fd : FuncData} (F : Fun K "fitting" "fitting" sFitting f fd) (T : Txt mg) (c : Cst mg) (B : BkTxt K mg C aM) (HC : Has P w K mg base "is_cell" ["many", "thing"] 3 spIsCell) (HL : Has P w K mg base "lies_within" ["inner", "outer"] 1 spLies) :
    FnOk P w K mg base CX0 4 f fd ["book", "cell"] (spFitting C) := by
  refine F.ok scFitting (fun vs H Q E h => ?_) (fun cdv A outer s H vs Q E hr h => ?_)
  · obtain ⟨b, p, man, wt, v, ys, es, ms, rfl, _⟩ := h
    rfl
  · obtain ⟨b, p, man, wt, v, ys, es, ms, rfl, ⟨dx, hb⟩, hp, ents, eok, el, mv, mok, k⟩ := h
    refine ⟨_, (pss_cons (ps_if (pt_not (pt_val (pe_callH HC (hr.mono (by decide)) rfl (pa_cons (pe_gint rfl c.MARKS) (pa_cons (pv 1) pa_nil))))) (pss_one ps_never) pss_nil)
      (pss_one (ps_ret (pe_callTy call_tuple_of rfl T.tuple (by decide +kernel) (pa_cons (pe_lc (own := [("number", 2), ("entry", 3)]) rfl scFitting.nd (pi_enumT rfl T.enumerate (pa_cons (pe_fld (pv 0) rfl) pa_nil)) (blkOk_by (N := ["book", "cell", "number", "entry"]) (sc := defScope sFitting) (by decide +kernel)) (fun _ _ _ _ _ => (show PG _ _ (gTup K 2 _) from pg_tup rfl (pgs_cons (pg_name (i := 2) scFitting.nd rfl (by first | exact Or.inl rfl | exact Or.inr rfl)) (pgs_cons (pg_name (i := 3) scFitting.nd rfl (by first | exact Or.inl rfl | exact Or.inr rfl)) pgs_nil)))) (fun _ _ _ _ _ => pts_one (pt_val (pe_callH HL (hr.mono (by decide)) rfl (pa_cons (pe_ix (show IxR _ (rIxT K) from ix_tup) (pv 3) pe_int (fun _ _ => rfl)) (pa_cons (pv 1) pa_nil))))) (fun _ _ _ _ _ => (pv 2))) pa_nil))))), ?_⟩
    refine ⟨_, rfl, _, v, ms, rfl, mv, mok, _, rfl, ?_⟩
    refine iteF ?_
    have hyl := Paired.length ents
    refine ⟨_, rfl, b, C, dx, _, _, rfl, hb, B.cl, B.nE, bf_entries _ _ _, p, ys, rfl, sqT hp, fun D hD => ?_⟩
    refine lc_it (walk_enumT (K := K) (a := p) (xs := ys)) (fun i H4 => Same H H4 ∧ H4 D = some (.lst ((nat2 ((List.range i).filter (fitP es ms))).map V.int))) ⟨Same.new hD, upd_same⟩ (fun i H4 _ ⟨e, _⟩ => sqT (e _ _ hp)) ?_ ?_
    · rintro i x H4 H5 hi ⟨sm, e4⟩ ⟨t, y, rfl, ht, rfl, hy⟩
      obtain ⟨e, he, u, ⟨r0, rfl, hr0⟩, mu⟩ := Paired.get ents hy
      have s5 : Same H4 (upd H4 t (.tup [.int (i : Nat), .ref r0])) := Same.new ht
      have et : (upd H4 t (.tup [.int (i : Nat), .ref r0])) t = some (.tup [.int (i : Nat), .ref r0]) := upd_same
      generalize upd H4 t (.tup [.int (i : Nat), .ref r0]) = H5 at *
      have s15 := sm.trans s5
      refine ⟨t, _, rfl, sqT et, rfl, _, _, rfl, _, _, rfl, rfl, rfl, ?_⟩
      refine ⟨_, rfl, r0, _, _, _, rfl, rfl, sqT (s15 _ _ hr0), at_of (j := 0) rfl rfl, _, rfl, u, v, e.1, ms, rfl, Tup.keep (TFr.same s15) mu, Tup.keep (TFr.same s15) mv, _, rfl, ?_⟩
      have e5 := s5 _ _ e4
      refine ite2 (fun hn => ?_) (fun hn => ?_)
      · refine ⟨_, rfl, _, e5, by rw [List.length_map]; exact small1000 (Nat.le_trans (fit_len es ms i) (by omega)), fun b o h => by rw [upd_ne (ne_of_none h hD)]; exact s15 b o h, ?_⟩
        rw [upd_same, fit_take, fitP_at he, if_pos hn, nat2_app, List.map_append]
        rfl
      · refine ⟨s15, ?_⟩
        rw [e5, fit_take, fitP_at he, if_neg hn, List.append_nil]
    · rintro H4 ⟨sm, e4⟩
      rw [hyl] at e4
      refine ⟨D, _, rfl, .inl ⟨SqL.of e4, fun l hl => ?_⟩⟩
      exact k l _ upd_same (sm.trans (Same.new hl))
abbrev sLawFits : Stmt := top 59
theorem scLawFits : FnScope ["entries", "cell", "number"] ["entries", "cell"] (defScope sLawFits) := ⟨rfl, rfl, rfl, by decide +kernel, rfl, by decide +kernel, by decide +kernel⟩

theorem ok_fits {f : Addr} {fd : FuncData} (F : Fun K "_law_fits" "_law_fits" sLawFits f fd) (T : Txt mg) (HI : Has P w K mg base "_law_in" ["one", "other"] 1 spIn) : FnOk P w K mg base CX0 2 f fd ["entries", "cell"] (spFits K) := by
  refine F.ok scLawFits (fun vs H Q E h => ?_) (fun cdv A outer s H vs Q E hr h => ?_)
  · obtain ⟨p, v, ys, es, ms, rfl, _⟩ := h
    rfl
  · obtain ⟨p, v, ys, es, ms, rfl, hp, ents, eok, el, mv, k⟩ := h
    refine ⟨_, (pss_one (ps_ret (pe_lc (own := [("number", 2)]) rfl scLawFits.nd (pi_range1 rfl T.range (pa_cons (pe_callB call_len rfl T.len PySem.boot_len (pa_cons (pv 0) pa_nil)) pa_nil)) (blkOk_by (N := ["entries", "cell", "number"]) (sc := defScope sLawFits) (by decide +kernel)) (fun _ _ _ _ _ => (pg_name (i := 2) scLawFits.nd rfl (by first | exact Or.inl rfl | exact Or.inr rfl))) (fun _ _ _ _ _ => pts_one (pt_val (pe_callH HI (hr.mono (by decide)) rfl (pa_cons (pe_ix (show IxR _ (rIxT K) from ix_tup) (pe_ix (show IxR _ (rIxT K) from ix_tup) (pv 0) (pv 2) (fun _ _ => rfl)) pe_int (fun _ _ => rfl)) (pa_cons (pv 1) pa_nil))))) (fun _ _ _ _ _ => (pv 2))))), ?_⟩
    have hyl := Paired.length ents
    refine ⟨_, rfl, _, ys.length, rfl, .inr ⟨_, sqT hp, rfl⟩, _, rfl, by omega, by omega, fun D hD => ?_⟩
    refine lc_range (n := ((ys.length : Nat) : Int).toNat) (fun i H4 => Same H H4 ∧ H4 D = some (.lst ((nat2 ((List.range i).filter (fitP es ms))).map V.int))) ⟨Same.new hD, upd_same⟩ ?_ ?_
    · rintro i H4 hi ⟨sm, e4⟩
      have hi' : i < ys.length := by omega
      have hy : ys[i]? = some ys[i] := List.getElem?_eq_getElem hi'
      obtain ⟨e, he, u, ⟨r0, er0, hr0⟩, mu⟩ := Paired.get ents hy
      have ek := (eok e (List.mem_of_getElem? he)).ms.len
      refine ⟨rfl, _, rfl, _, rfl, p, _, _, _, rfl, rfl, sqT (sm _ _ hp), at_of (j := i) (by omega) hy, ?_⟩
      rw [er0]
      refine ⟨r0, _, _, _, rfl, rfl, sqT (sm _ _ hr0), at_of (j := 0) rfl rfl, _, rfl, u, v, e.1, ms, rfl, Tup.keep (TFr.same sm) mu, Tup.keep (TFr.same sm) mv, by omega, fun H5 s5 => ⟨_, rfl, ?_⟩⟩
      have e5 := s5 _ _ e4
      have s15 := sm.trans s5
      refine ite2 (fun hn => ?_) (fun hn => ?_)
      · refine ⟨_, rfl, _, e5, by rw [List.length_map]; exact small1000 (Nat.le_trans (fit_len es ms i) (by omega)), fun b o h => by rw [upd_ne (ne_of_none h hD)]; exact s15 b o h, ?_⟩
        rw [upd_same, fit_take, fitP_at he, if_pos hn, nat2_app, List.map_append, Int.zero_add]
        rfl
      · refine ⟨s15, ?_⟩
        rw [e5, fit_take, fitP_at he, if_neg hn, List.append_nil]
    · rintro H4 ⟨sm, e4⟩
      rw [Int.toNat_natCast, hyl] at e4
      exact k D H4 e4 sm
end
end Xci

namespace Xci
open PySem L2

section
variable {P : Program} {w : World} {K : PySem.W.Frag} {mg : Str → Option Value} {base : Heap}
abbrev sRank : Stmt := top 30
theorem scRank : FnScope ["book", "number", "marks", "mark"] ["book", "number"] (defScope sRank) := ⟨rfl, rfl, rfl, by decide +kernel, rfl, by decide +kernel, by decide +kernel⟩

theorem ent_at {H : Hp} {ys : List V} {es : List Ent} {j : Nat} (ents : Ents H ys es) (hj : j < es.length) : ∃ (r : Addr) (u : V) (e : Ent), ys[j]? = some (.ref r) ∧ H r = some (.tup [u, .str e.2]) ∧ Xci.Mk H u e.1 ∧ es[j]? = some e := by
  obtain ⟨y, hy, u, ⟨r, rfl, hr⟩, mu⟩ := Paired.get' ents (List.getElem?_eq_getElem hj)
  exact ⟨r, u, es[j], hy, hr, mu, List.getElem?_eq_getElem hj⟩
theorem mk_ent {es : List Ent} {j : Nat} {e : Ent} (ok : ∀ e ∈ es, EntOk e) (h : es[j]? = some e) : MarksOk 6 e.1 := (ok e (List.mem_of_getElem? h)).ms
theorem ws_at {ws : List Int} {m : Int} (hl : ws.length = 6) (h0 : 0 ≤ m) (h1 : m < 6) : (ws.map V.int)[m.toNat]? = some (.int (ws.getD m.toNat 0)) := by
  have hm : m.toNat < ws.length := by omega
  rw [List.getElem?_map, List.getElem?_eq_getElem hm]
  simp [List.getD_eq_getElem?_getD, List.getElem?_eq_getElem hm]
theorem take_map {α β : Type} {f : α → β} {l : List α} {i : Nat} {x : α} (h : l[i]? = some x) : (l.take (i + 1)).map f = (l.take i).map f ++ [f x] := by
  rw [List.take_add_one, h, List.map_append]
  rfl
theorem ok_rank {f C aM : Addr} {fd : FuncData} (F : Fun K "rank" "rank" sRank f fd) (T : Txt mg) (B : BkTxt K mg C aM) : FnOk P w K mg base CX0 1 f fd ["book", "number"] (spRank C) := by
  refine F.ok scRank (fun vs H Q E h => ?_) (fun cdv A outer s H vs Q E hr h => ?_)
  · obtain ⟨b, man, ws, es, j, rfl, _⟩ := h
    rfl
  · obtain ⟨b, man, ws, es, j, rfl, ⟨⟨p, wt, ys, ⟨dx, hb⟩, hp, ents, hw⟩, ok, hl⟩, hj, k⟩ := h
    refine ⟨_, (pss_cons (ps_set (i := 2) scRank.nd rfl (by first | exact Or.inl rfl | exact Or.inr rfl) (pe_ix ix_tup (pe_ix ix_tup (pe_fld (pv 0) rfl) (pv 1) (fun _ _ => rfl)) pe_int (fun _ _ => rfl)))
      (pss_cons (ps_if (pt_cmpR op_eq (pe_fld (pv 0) rfl) pe_str (nomark _)) (pss_one (ps_ret (pe_callB (cr_sum rfl) rfl T.sum (by decide +kernel) (pa_cons (pe_lc (own := [("mark", 3)]) rfl scRank.nd (pi_tup (pv 2)) (blkOk_by (N := ["book", "number", "marks", "mark"]) (sc := defScope sRank) (by decide +kernel)) (fun _ _ _ _ _ => (pg_name (i := 3) scRank.nd rfl (by first | exact Or.inl rfl | exact Or.inr rfl))) (fun _ _ _ _ _ => pts_nil) (fun _ _ _ _ _ => (pe_ix (show IxR _ (rIxT K) from ix_tup) (show PE _ _ (tFld K _ _) from pe_fld (pv 0) rfl) (pv 3) (fun _ _ => rfl)))) pa_nil)))) pss_nil)
      (pss_one (ps_ret (pe_callB call_len rfl T.len PySem.boot_len (pa_cons (pv 2) pa_nil)))))), ?_⟩
    obtain ⟨r, u, e, hy, hr0, ⟨q, rfl, hq⟩, he⟩ := ent_at ents hj
    have mok := mk_ent ok he
    refine ⟨_, rfl, b, C, dx, _, _, rfl, hb, B.cl, B.nE, bf_entries _ _ _, _, rfl, p, _, _, _, rfl, rfl, sqT hp, at_of (j := j) rfl hy, r, _, _, _, rfl, rfl, sqT hr0, at_of (j := 0) rfl rfl, ?_⟩
    refine ⟨_, rfl, b, C, dx, _, _, rfl, hb, B.cl, B.nM, bf_manner _ _ _, rfl, _, rfl, ?_⟩
    rcases hw with ⟨hn, rfl⟩ | ⟨rfl, mw, hwl, hwb⟩
    · refine ite2 (fun hf => absurd (V.str.inj (of_decide_eq_true hf)) hn) (fun _ => ?_)
      refine ⟨_, rfl, _, _, rfl, .inr ⟨_, sqT hq, rfl⟩, ?_⟩
      have e1 : rkA man ws es j = ((e.1.map V.int).length : Nat) := by
        unfold rkA rk
        rw [if_neg hn, mkA_at he, List.length_map]
      have k' := k H (Same.refl H)
      rw [e1] at k'
      exact k'
    · refine ite2 (fun _ => ?_) (fun hf => absurd (decide_eq_true rfl) hf)
      obtain ⟨wp, rfl, hwp⟩ := mw
      refine ⟨_, rfl, q, rfl, ⟨_, sqT hq⟩, fun D hD => ?_⟩
      have ml := mok.len
      refine lc_tup (K := K) (a := q) (xs := e.1.map V.int) (fun i H4 => Same H H4 ∧ H4 D = some (.lst (((e.1.take i).map fun m => ws.getD m.toNat 0).map V.int))) ⟨Same.new hD, upd_same⟩ (fun i H4 _ ⟨s4, _⟩ => sqT (s4 _ _ hq)) ?_ ?_
      · rintro i y H4 hi ⟨sm, e4⟩
        obtain ⟨m, hm, rfl⟩ := int_of hi
        have mem := List.mem_of_getElem? hm
        have h0 := mok.lo m mem
        have h1 := mok.hi m mem
        refine ⟨rfl, _, rfl, b, C, dx, _, _, rfl, sm _ _ hb, B.cl, B.nW, bf_weights _ _ _, _, rfl, wp, _, _, _, rfl, rfl, sqT (sm _ _ hwp), at_of (j := m.toNat) (by omega) (ws_at hwl h0 h1), ?_⟩
        refine ⟨_, e4, by rw [List.length_map, List.length_map, List.length_take]; exact small1000 (by omega), fun b o h => by rw [upd_ne (ne_of_none h hD)]; exact sm b o h, ?_⟩
        rw [upd_same, take_map hm, List.map_append]
        rfl
      · rintro H4 ⟨sm, e4⟩
        rw [List.length_map, List.take_length] at e4
        refine ⟨D, _, rfl, SqL.of e4, ?_⟩
        have e1 : rkA "weights" ws es j = (e.1.map fun m => ws.getD m.toNat 0).sum := by
          unfold rkA rk
          rw [if_pos rfl, mkA_at he]
        have k' := k H4 sm
        rw [e1] at k'
        exact k'
abbrev sHighest : Stmt := top 31
theorem scHighest : FnScope ["book", "numbers", "ranks", "number", "best", "reached"] ["book", "numbers"] (defScope sHighest) := ⟨rfl, rfl, rfl, by decide +kernel, rfl, by decide +kernel, by decide +kernel⟩

theorem filt_snoc {α : Type} {p : α → Bool} {l : List α} {i : Nat} {x : α} (h : l[i]? = some x) : (l.take (i + 1)).filter p = (l.take i).filter p ++ if p x = true then [x] else [] := by
  rw [List.take_add_one, h, List.filter_append]
  show _ ++ List.filter p [x] = _
  rw [List.filter_cons, List.filter_nil]
theorem ok_highest {f C : Addr} {fd : FuncData} (F : Fun K "_highest" "_highest" sHighest f fd) (T : Txt mg) (HR : Has P w K mg base "rank" ["book", "number"] 1 (spRank C)) : FnOk P w K mg base CX0 2 f fd ["book", "numbers"] (spHighest C) := by
  refine F.ok scHighest (fun vs H Q E h => ?_) (fun cdv A outer s H vs Q E hr h => ?_)
  · obtain ⟨b, q, man, ws, es, js, rfl, _⟩ := h
    rfl
  · obtain ⟨b, q, man, ws, es, js, rfl, bs, hq, hlt, hne, hjl, k⟩ := h
    refine ⟨_, (C8.pss_cut (ps_setLc (i := 2) (own := [("number", 3)]) rfl scHighest.nd rfl rfl (sw_true rfl rfl rfl (by decide +kernel)) (pi_tup (pv 1)) (blkOk_by (N := ["book", "numbers", "ranks", "number", "best", "reached"]) (sc := defScope sHighest) (by decide +kernel)) (fun _ _ _ _ _ => (pg_name (i := 3) scHighest.nd rfl (by first | exact Or.inl rfl | exact Or.inr rfl))) (fun _ _ _ _ _ => pts_nil) (fun _ _ _ _ _ => (pe_callH HR (hr.mono (by decide)) rfl (pa_cons (pv 0) (pa_cons (pv 3) pa_nil)))))
      (C8.pss_cut (ps_set (i := 4) scHighest.nd rfl (by first | exact Or.inl rfl | exact Or.inr rfl) (pe_callB (cr_max rfl) rfl T.max (by decide +kernel) (pa_cons (pv 2) pa_nil)))
      (pss_one (ps_ret (pe_callTy call_tuple_of rfl T.tuple (by decide +kernel) (pa_cons (pe_lc (own := [("number", 3), ("reached", 5)]) rfl scHighest.nd (pi_zipM rfl T.zip (pa_cons (pv 1) (pa_cons (pv 2) pa_nil))) (blkOk_by (N := ["book", "numbers", "ranks", "number", "best", "reached"]) (sc := defScope sHighest) (by decide +kernel)) (fun _ _ _ _ _ => (show PG _ _ (gTup K 2 _) from pg_tup rfl (pgs_cons (pg_name (i := 3) scHighest.nd rfl (by first | exact Or.inl rfl | exact Or.inr rfl)) (pgs_cons (pg_name (i := 5) scHighest.nd rfl (by first | exact Or.inl rfl | exact Or.inr rfl)) pgs_nil)))) (fun _ _ _ _ _ => pts_one (pt_cmpR op_eq (pv 5) (pv 4) (nomark _))) (fun _ _ _ _ _ => (pv 3))) pa_nil)))))), ?_⟩
    have hq : H q = some (.tup ((nat2 js).map V.int)) := hq
    refine ⟨fun σ' H1 => Same H H1 ∧ ∃ D : Addr, H1 D = some (.lst ((js.map (rkA man ws es)).map V.int)) ∧ σ' = [some (.ref b), some (.ref q), some (.ref D), none, none, none], ?_, ?_⟩
    · refine ⟨_, rfl, q, rfl, ⟨_, sqT hq⟩, fun D hD => ?_⟩
      refine lc_tup (K := K) (a := q) (xs := (nat2 js).map V.int) (fun i H4 => Same H H4 ∧ H4 D = some (.lst (((js.take i).map (rkA man ws es)).map V.int))) ⟨Same.new hD, upd_same⟩ (fun i H4 _ ⟨s4, _⟩ => sqT (s4 _ _ hq)) ?_ ?_
      · rintro i y H4 hi ⟨sm, e4⟩
        obtain ⟨j, hj, rfl⟩ := num_of hi
        have hj40 := (List.getElem?_eq_some_iff.mp hj).1
        refine ⟨rfl, _, rfl, _, rfl, b, man, ws, es, j, rfl, bs.same sm, hlt j (List.mem_of_getElem? hj), fun H5 s5 => ?_⟩
        refine ⟨_, s5 _ _ e4, by rw [List.length_map, List.length_map, List.length_take]; exact small1000 (by omega), fun b o h => by rw [upd_ne (ne_of_none h hD)]; exact s5 _ _ (sm b o h), ?_⟩
        rw [upd_same, take_map hj, List.map_append]
        rfl
      · rintro H4 ⟨sm, e4⟩
        rw [List.length_map, nat2_len, List.take_length] at e4
        exact ⟨sm, D, e4, rfl⟩
    rintro σ' H1 ⟨s1, D, eD, rfl⟩
    refine ⟨fun σ' H2 => H2 = H1 ∧ ∃ m : Int, IsMax js (rkA man ws es) m ∧ σ' = [some (.ref b), some (.ref q), some (.ref D), none, some (.int m), none], ?_, ?_⟩
    · refine ⟨_, rfl, D, _, rfl, SqL.of eD, by rw [List.length_map]; exact List.length_pos_iff.mpr hne, fun m hm hle => ?_⟩
      refine ⟨rfl, m, ⟨?_, fun j hj => hle _ (List.mem_map_of_mem hj)⟩, rfl⟩
      obtain ⟨j, hj, e⟩ := List.mem_map.mp hm
      exact ⟨j, hj, e⟩
    rintro σ' H2 ⟨rfl, m, M, rfl⟩
    have hq2 := s1 _ _ hq
    have ll : ((nat2 js).map V.int).length = ((js.map (rkA man ws es)).map V.int).length := by rw [List.length_map, nat2_len, List.length_map, List.length_map]
    refine ⟨_, rfl, _, rfl, q, D, _, _, rfl, ⟨sqT hq2, SqL.of eD⟩, fun L hL => ?_⟩
    refine lc_it (walk_zipM (K := K) (a := q) (b := D) ll) (fun i H4 => Same H2 H4 ∧ H4 L = some (.lst ((nat2 ((js.take i).filter fun j => decide (rkA man ws es j = m))).map V.int))) ⟨Same.new hL, upd_same⟩ (fun i H4 _ ⟨s4, _⟩ => ⟨sqT (s4 _ _ hq2), SqL.of (s4 _ _ eD)⟩) ?_ ?_
    · rintro i x H4 H5 hi ⟨sm, e4⟩ ⟨t, x1, x2, rfl, ht, rfl, hx1, hx2⟩
      obtain ⟨j, hj, rfl⟩ := num_of hx1
      obtain ⟨z, hz, rfl⟩ := int_of hx2
      rw [List.getElem?_map, hj] at hz
      obtain rfl : rkA man ws es j = z := Option.some.inj hz
      have s5 : Same H4 (upd H4 t (.tup [.int (j : Int), .int (rkA man ws es j)])) := Same.new ht
      have et : (upd H4 t (.tup [.int (j : Int), .int (rkA man ws es j)])) t = some (.tup [.int (j : Int), .int (rkA man ws es j)]) := upd_same
      generalize upd H4 t (.tup [.int (j : Int), .int (rkA man ws es j)]) = H5 at *
      have e5 := s5 _ _ e4
      have hj40 := (List.getElem?_eq_some_iff.mp hj).1
      refine ⟨t, _, rfl, sqT et, rfl, _, _, rfl, _, _, rfl, rfl, rfl, ?_⟩
      refine ⟨_, rfl, _, rfl, rfl, _, rfl, ?_⟩
      have dd : decide (V.int (rkA man ws es j) = V.int m) = decide (rkA man ws es j = m) := by
        rw [Bool.eq_iff_iff, decide_eq_true_iff, decide_eq_true_iff]
        exact ⟨fun h => V.int.inj h, fun h => by rw [h]⟩
      rw [dd]
      refine ite2 (fun hn => ?_) (fun hn => ?_)
      · refine ⟨_, rfl, _, e5, ?_, fun b o h => by rw [upd_ne (ne_of_none h hL)]; exact s5 _ _ (sm b o h), ?_⟩
        · rw [List.length_map, nat2_len]
          exact small1000 (Nat.le_trans (List.length_filter_le _ _) (by rw [List.length_take]; omega))
        · rw [upd_same, filt_snoc hj, if_pos hn, nat2_app, List.map_append]
          rfl
      · refine ⟨sm.trans s5, ?_⟩
        rw [e5, filt_snoc hj, if_neg hn, List.append_nil]
    · rintro H4 ⟨sm, e4⟩
      rw [List.length_map, nat2_len, List.take_length] at e4
      refine ⟨L, _, rfl, .inl ⟨SqL.of e4, fun t ht => ?_⟩⟩
      exact k t m _ M upd_same ((s1.trans sm).trans (Same.new ht))
abbrev sHoldsAll : Stmt := top 33
theorem scHoldsAll : FnScope ["book", "number", "numbers", "marks", "other"] ["book", "number", "numbers"] (defScope sHoldsAll) := ⟨rfl, rfl, rfl, by decide +kernel, rfl, by decide +kernel, by decide +kernel⟩

theorem ok_holds {f C aM : Addr} {fd : FuncData} (F : Fun K "_holds_all" "_holds_all" sHoldsAll f fd) (T : Txt mg) (B : BkTxt K mg C aM) (HL : Has P w K mg base "lies_within" ["inner", "outer"] 1 spLies) : FnOk P w K mg base CX0 2 f fd ["book", "number", "numbers"] (spHolds C) := by
  refine F.ok scHoldsAll (fun vs H Q E h => ?_) (fun cdv A outer s H vs Q E hr h => ?_)
  · obtain ⟨b, q, man, ws, es, js, n, rfl, _⟩ := h
    rfl
  · obtain ⟨b, q, man, ws, es, js, n, rfl, ⟨⟨p, wt, ys, ⟨dx, hb⟩, hp, ents, hw⟩, ok, hl⟩, hq, hlt, hn, hjl, k⟩ := h
    refine ⟨_, (pss_cons (ps_set (i := 3) scHoldsAll.nd rfl (by first | exact Or.inl rfl | exact Or.inr rfl) (pe_ix ix_tup (pe_ix ix_tup (pe_fld (pv 0) rfl) (pv 1) (fun _ _ => rfl)) pe_int (fun _ _ => rfl)))
      (pss_one (ps_ret (pe_callB (cr_all rfl) rfl T.all (by decide +kernel) (pa_cons (pe_lc (own := [("other", 4)]) rfl scHoldsAll.nd (pi_tup (pv 2)) (blkOk_by (N := ["book", "number", "numbers", "marks", "other"]) (sc := defScope sHoldsAll) (by decide +kernel)) (fun _ _ _ _ _ => (pg_name (i := 4) scHoldsAll.nd rfl (by first | exact Or.inl rfl | exact Or.inr rfl))) (fun _ _ _ _ _ => pts_nil) (fun _ _ _ _ _ => (pe_callH HL (hr.mono (by decide)) rfl (pa_cons (pe_ix (show IxR _ (rIxT K) from ix_tup) (pe_ix (show IxR _ (rIxT K) from ix_tup) (show PE _ _ (tFld K _ _) from pe_fld (pv 0) rfl) (pv 4) (fun _ _ => rfl)) pe_int (fun _ _ => rfl)) (pa_cons (pv 3) pa_nil))))) pa_nil))))), ?_⟩
    have hq : H q = some (.tup ((nat2 js).map V.int)) := hq
    obtain ⟨r, u, e, hy, hr0, mu, he⟩ := ent_at ents hn
    refine ⟨_, rfl, b, C, dx, _, _, rfl, hb, B.cl, B.nE, bf_entries _ _ _, _, rfl, p, _, _, _, rfl, rfl, sqT hp, at_of (j := n) rfl hy, r, _, _, _, rfl, rfl, sqT hr0, at_of (j := 0) rfl rfl, ?_⟩
    refine ⟨_, rfl, q, rfl, ⟨_, sqT hq⟩, fun D hD => ?_⟩
    refine lc_tup (K := K) (a := q) (xs := (nat2 js).map V.int) (fun i H4 => Same H H4 ∧ H4 D = some (.lst (((js.take i).map fun o => inside (mkA es o) (mkA es n)).map V.bl))) ⟨Same.new hD, upd_same⟩ (fun i H4 _ ⟨s4, _⟩ => sqT (s4 _ _ hq)) ?_ ?_
    · rintro i y H4 hi ⟨sm, e4⟩
      obtain ⟨j, hj, rfl⟩ := num_of hi
      have hj40 := (List.getElem?_eq_some_iff.mp hj).1
      obtain ⟨r1, u1, e1, hy1, hr1, mu1, he1⟩ := ent_at ents (hlt j (List.mem_of_getElem? hj))
      refine ⟨rfl, _, rfl, b, C, dx, _, _, rfl, sm _ _ hb, B.cl, B.nE, bf_entries _ _ _, _, rfl, p, _, _, _, rfl, rfl, sqT (sm _ _ hp), at_of (j := j) rfl hy1, r1, _, _, _, rfl, rfl, sqT (sm _ _ hr1), at_of (j := 0) rfl rfl, _, rfl, u1, u, e1.1, e.1, rfl, Tup.keep (TFr.same sm) mu1, Tup.keep (TFr.same sm) mu, ?_⟩
      refine ⟨_, e4, by rw [List.length_map, List.length_map, List.length_take]; exact small1000 (by omega), fun b o h => by rw [upd_ne (ne_of_none h hD)]; exact sm b o h, ?_⟩
      rw [upd_same, take_map hj, List.map_append, mkA_at he1, mkA_at he]
      rfl
    · rintro H4 ⟨sm, e4⟩
      rw [List.length_map, nat2_len, List.take_length] at e4
      refine ⟨D, _, rfl, SqL.of e4, ?_⟩
      have ee : (js.map fun o => inside (mkA es o) (mkA es n)).all id = holds es js n := by
        unfold holds
        rw [List.all_map]
        rfl
      rw [ee]
      exact k H4 sm
abbrev sSpeaking : Stmt := top 32
theorem scSpeaking : FnScope ["book", "numbers", "highest"] ["book", "numbers"] (defScope sSpeaking) := ⟨rfl, rfl, rfl, by decide +kernel, rfl, by decide +kernel, by decide +kernel⟩

theorem man3_row {man : Str} (h : Man3 man) : man ≠ "row" := by
  rcases h with rfl | rfl | rfl <;> decide +kernel
theorem ok_speaking {f C aM : Addr} {fd : FuncData} (F : Fun K "speaking" "speaking" sSpeaking f fd) (T : Txt mg) (B : BkTxt K mg C aM) (HH : Has P w K mg base "_highest" ["book", "numbers"] 2 (spHighest C)) (HO : Has P w K mg base "_holds_all" ["book", "number", "numbers"] 2 (spHolds C)) :
    FnOk P w K mg base CX0 3 f fd ["book", "numbers"] (spSpeaking C) := by
  refine F.ok scSpeaking (fun vs H Q E h => ?_) (fun cdv A outer s H vs Q E hr h => ?_)
  · obtain ⟨b, q, man, ws, es, js, rfl, _⟩ := h
    rfl
  · obtain ⟨b, q, man, ws, es, js, rfl, bs, hman, hq, hlt, hnd, hjl, k⟩ := h
    refine ⟨_, (pss_cons (ps_if (pt_not (pt_truth (pv 1) (fun _ => rfl))) (pss_one (ps_ret pe_non)) pss_nil)
      (pss_cons (ps_if (pt_cmpR op_eq (pe_fld (pv 0) rfl) pe_str (nomark _)) (pss_one ps_never) pss_nil)
      (pss_cons (ps_set (i := 2) scSpeaking.nd rfl (by first | exact Or.inl rfl | exact Or.inr rfl) (pe_callH HH (hr.mono (by decide)) rfl (pa_cons (pv 0) (pa_cons (pv 1) pa_nil))))
      (pss_cons (ps_if (pt_cmpR op_gt (pe_callB call_len rfl T.len PySem.boot_len (pa_cons (pv 2) pa_nil)) pe_int (nomark _)) (pss_one (ps_ret pe_non)) pss_nil)
      (pss_cons (ps_if (PW.pt (pw_and (pt_cmpR op_eq (pe_fld (pv 0) rfl) pe_str (nomark _)) (pw_and1 (pt_not (pt_val (pe_callH HO (hr.mono (by decide)) rfl (pa_cons (pv 0) (pa_cons (pe_ix ix_tup (pv 2) pe_int (fun _ _ => rfl)) (pa_cons (pv 1) pa_nil))))))))) (pss_one (ps_ret pe_non)) pss_nil)
      (pss_one (ps_ret (pe_ix ix_tup (pv 2) pe_int (fun _ _ => rfl))))))))), ?_⟩
    obtain ⟨p, wt, ys, ⟨dx, hb⟩, hp, ents, hw⟩ := bs.ex
    have hq : H q = some (.tup ((nat2 js).map V.int)) := hq
    refine ⟨_, rfl, _, .inr (.inl ⟨_, sqT hq, rfl⟩), ?_⟩
    by_cases hne : js = []
    · subst hne
      exact iteT (k H (Same.refl H))
    have ne1 : (!!((nat2 js).map V.int).isEmpty) = false := by
      cases js with
      | nil => exact absurd rfl hne
      | cons j r => rfl
    refine ite2 (fun hf => ?_) (fun _ => ?_)
    · have hf' : (!!((nat2 js).map V.int).isEmpty) = true := hf
      rw [ne1] at hf'
      cases hf'
    refine ⟨_, rfl, b, C, dx, _, _, rfl, hb, B.cl, B.nM, bf_manner _ _ _, rfl, _, rfl, ?_⟩
    refine ite2 (fun hf => absurd (V.str.inj (of_decide_eq_true hf)) (man3_row hman)) (fun _ => ?_)
    refine ⟨_, rfl, _, rfl, b, q, man, ws, es, js, rfl, bs, hq, hlt, hne, hjl, fun t m H1 M ht s1 => ?_⟩
    have ht1 : H1 t = some (.tup ((nat2 (hi js (rkA man ws es) m)).map V.int)) := ht
    clear ht
    have hb1 := s1 _ _ hb
    refine ⟨_, rfl, _, _, rfl, .inr ⟨_, sqT ht1, rfl⟩, _, _, rfl, rfl, _, rfl, ?_⟩
    by_cases hmany : 1 < (hi js (rkA man ws es) m).length
    · refine ite2 (fun _ => ?_) (fun hf => ?_)
      · have e := lawRes_qua (beatA_ok man ws es) hnd hne (many_noWin hnd M hmany)
        rw [e] at k
        exact k H1 s1
      · refine absurd (decide_eq_true ?_) hf
        rw [List.length_map, nat2_len]
        omega
    have hone : ∃ n, hi js (rkA man ws es) m = [n] := by
      have := hi_ne M
      match hh : hi js (rkA man ws es) m with
      | [] => exact absurd hh this
      | [n] => exact ⟨n, rfl⟩
      | x :: y :: r => rw [hh] at hmany; simp at hmany
    obtain ⟨n, hn⟩ := hone
    have hnj := (hi_one M hn).1
    refine ite2 (fun hf => ?_) (fun _ => ?_)
    · have := of_decide_eq_true hf
      rw [List.length_map, nat2_len] at this
      omega
    rw [hn] at ht1
    refine ⟨_, rfl, b, C, dx, _, _, rfl, hb1, B.cl, B.nM, bf_manner _ _ _, rfl, _, rfl, ?_⟩
    by_cases hm : man = "within"
    · subst hm
      refine ite2 (fun _ => ?_) (fun hf => absurd (decide_eq_true rfl) hf)
      refine ⟨_, rfl, _, rfl, t, _, _, _, rfl, rfl, sqT ht1, at_of (j := 0) rfl rfl, _, rfl, b, q, "within", ws, es, js, n, rfl, bs.same s1, s1 _ _ hq, hlt, hlt n hnj, hjl, fun H2 s2 => ⟨_, rfl, ?_⟩⟩
      cases hh : holds es js n with
      | false =>
        refine iteT ?_
        have e := lawRes_qua (beatA_ok "within" ws es) hnd hne (within_noWin M hn hh)
        rw [e] at k
        exact k H2 (s1.trans s2)
      | true =>
        refine iteF ?_
        have e := lawRes_ent (beatA_ok "within" ws es) hnd (within_Win M hn hh)
        rw [e] at k
        exact ⟨_, rfl, t, _, _, _, rfl, rfl, sqT (s2 _ _ ht1), at_of (j := 0) rfl rfl, k H2 (s1.trans s2)⟩
    · refine ite2 (fun hf => absurd (V.str.inj (of_decide_eq_true hf)) hm) (fun _ => ?_)
      refine iteF ?_
      have e := lawRes_ent (beatA_ok man ws es) hnd (one_Win hm M hn)
      rw [e] at k
      exact ⟨_, rfl, t, _, _, _, rfl, rfl, sqT ht1, at_of (j := 0) rfl rfl, k H1 s1⟩
end
end Xci

namespace Xci
open PySem L2

section
variable {P : Program} {w : World} {K : PySem.W.Frag} {mg : Str → Option Value} {base : Heap}
abbrev sLawProper : Stmt := top 54
theorem scLawProper : FnScope ["one", "other"] ["one", "other"] (defScope sLawProper) := ⟨rfl, rfl, rfl, by decide +kernel, rfl, by decide +kernel, by decide +kernel⟩

theorem ok_proper {f : Addr} {fd : FuncData} (F : Fun K "_law_proper" "_law_proper" sLawProper f fd) (T : Txt mg) (HI : Has P w K mg base "_law_in" ["one", "other"] 1 spIn) : FnOk P w K mg base CX0 2 f fd ["one", "other"] spProper := by
  refine F.ok scLawProper (fun vs H Q E h => ?_) (fun cdv A outer s H vs Q E hr h => ?_)
  · obtain ⟨u, v, ms, ns, rfl, _⟩ := h
    rfl
  · obtain ⟨u, v, ms, ns, rfl, mu, mv, hl, k⟩ := h
    refine ⟨_, (pss_one (ps_ret (pe_and (pe_callH HI (hr.mono (by decide)) rfl (pa_cons (pv 0) (pa_cons (pv 1) pa_nil))) (pe_one (pe_cmpR op_lt (pe_callB call_len rfl T.len PySem.boot_len (pa_cons (pv 0) pa_nil)) (pe_callB call_len rfl T.len PySem.boot_len (pa_cons (pv 1) pa_nil)) (nomark _)))))), ?_⟩
    refine ⟨_, rfl, _, rfl, u, v, ms, ns, rfl, mu, mv, hl, fun H1 s1 => ⟨_, rfl, ?_⟩⟩
    obtain ⟨p, rfl, hp⟩ := mu
    obtain ⟨q, rfl, hq⟩ := mv
    have k' := k H1 s1
    refine ite2 (fun hin => ?_) (fun hin => ?_)
    · have hin' : inside ms ns = true := hin
      refine ⟨_, rfl, _, _, rfl, .inr ⟨_, sqT (s1 _ _ hp), rfl⟩, _, rfl, _, _, rfl, .inr ⟨_, sqT (s1 _ _ hq), rfl⟩, _, _, rfl, rfl, ?_⟩
      have e : decide ((((ms.map V.int).length : Nat) : Int) < (((ns.map V.int).length : Nat) : Int)) = (inside ms ns && decide (ms.length < ns.length)) := by
        rw [hin', Bool.true_and, List.length_map, List.length_map, Bool.eq_iff_iff, decide_eq_true_iff, decide_eq_true_iff]
        omega
      rw [← e] at k'
      exact k'
    · have hin' : inside ms ns = false := by
        cases h : inside ms ns with
        | false => rfl
        | true => exact absurd h hin
      rw [hin', Bool.false_and] at k'
      exact k'
abbrev sLawSum : Stmt := top 58
theorem scLawSum : FnScope ["weights", "marks", "mark"] ["weights", "marks"] (defScope sLawSum) := ⟨rfl, rfl, rfl, by decide +kernel, rfl, by decide +kernel, by decide +kernel⟩

theorem ok_sum {f : Addr} {fd : FuncData} (F : Fun K "_law_sum" "_law_sum" sLawSum f fd) (T : Txt mg) : FnOk P w K mg base CX0 1 f fd ["weights", "marks"] spSum := by
  refine F.ok scLawSum (fun vs H Q E h => ?_) (fun cdv A outer s H vs Q E hr h => ?_)
  · obtain ⟨wt, u, ws, ms, rfl, _⟩ := h
    rfl
  · obtain ⟨wt, u, ws, ms, rfl, ⟨wp, rfl, hwp⟩, hwl, ⟨q, rfl, hq⟩, mok, k⟩ := h
    refine ⟨_, (pss_one (ps_ret (pe_callB (cr_sum rfl) rfl T.sum (by decide +kernel) (pa_cons (pe_lc (own := [("mark", 2)]) rfl scLawSum.nd (pi_tup (pv 1)) (blkOk_by (N := ["weights", "marks", "mark"]) (sc := defScope sLawSum) (by decide +kernel)) (fun _ _ _ _ _ => (pg_name (i := 2) scLawSum.nd rfl (by first | exact Or.inl rfl | exact Or.inr rfl))) (fun _ _ _ _ _ => pts_nil) (fun _ _ _ _ _ => (pe_ix (show IxR _ (rIxT K) from ix_tup) (pv 0) (pv 2) (fun _ _ => rfl)))) pa_nil)))), ?_⟩
    have ml := mok.len
    refine ⟨_, rfl, q, rfl, ⟨_, sqT hq⟩, fun D hD => ?_⟩
    refine lc_tup (K := K) (a := q) (xs := ms.map V.int) (fun i H4 => Same H H4 ∧ H4 D = some (.lst (((ms.take i).map fun m => ws.getD m.toNat 0).map V.int))) ⟨Same.new hD, upd_same⟩ (fun i H4 _ ⟨s4, _⟩ => sqT (s4 _ _ hq)) ?_ ?_
    · rintro i y H4 hi ⟨sm, e4⟩
      obtain ⟨m, hm, rfl⟩ := int_of hi
      have mem := List.mem_of_getElem? hm
      have h0 := mok.lo m mem
      have h1 := mok.hi m mem
      refine ⟨rfl, _, rfl, _, rfl, wp, _, _, _, rfl, rfl, sqT (sm _ _ hwp), at_of (j := m.toNat) (by omega) (ws_at hwl h0 h1), ?_⟩
      refine ⟨_, e4, by rw [List.length_map, List.length_map, List.length_take]; exact small1000 (by omega), fun b o h => by rw [upd_ne (ne_of_none h hD)]; exact sm b o h, ?_⟩
      rw [upd_same, take_map hm, List.map_append]
      rfl
    · rintro H4 ⟨sm, e4⟩
      rw [List.length_map, List.take_length] at e4
      exact ⟨D, _, rfl, SqL.of e4, k H4 sm⟩
abbrev sLawBeats : Stmt := top 60
theorem scLawBeats : FnScope ["manner", "weights", "one", "other"] ["manner", "weights", "one", "other"] (defScope sLawBeats) := ⟨rfl, rfl, rfl, by decide +kernel, rfl, by decide +kernel, by decide +kernel⟩

theorem ok_beats {f : Addr} {fd : FuncData} (F : Fun K "_law_beats" "_law_beats" sLawBeats f fd) (T : Txt mg) (HP : Has P w K mg base "_law_proper" ["one", "other"] 2 spProper) (HS : Has P w K mg base "_law_sum" ["weights", "marks"] 1 spSum) :
    FnOk P w K mg base CX0 3 f fd ["manner", "weights", "one", "other"] spBeats := by
  refine F.ok scLawBeats (fun vs H Q E h => ?_) (fun cdv A outer s H vs Q E hr h => ?_)
  · obtain ⟨man, wt, u, v, ws, ms, ns, rfl, _⟩ := h
    rfl
  · obtain ⟨man, wt, u, v, ws, ms, ns, rfl, hman, hw, mu, mv, mok, nok, k⟩ := h
    refine ⟨_, (pss_cons (ps_if (pt_cmpR op_eq (pv 0) pe_str (nomark _)) (pss_one (ps_ret (pe_callH HP (hr.mono (by decide)) rfl (pa_cons (pv 3) (pa_cons (pv 2) pa_nil))))) pss_nil)
      (pss_cons (ps_if (pt_cmpR op_eq (pv 0) pe_str (nomark _)) (pss_one (ps_ret (pe_cmpR op_gt (pe_callB call_len rfl T.len PySem.boot_len (pa_cons (pv 2) pa_nil)) (pe_callB call_len rfl T.len PySem.boot_len (pa_cons (pv 3) pa_nil)) (nomark _)))) pss_nil)
      (pss_one (ps_ret (pe_cmpR op_gt (pe_callH HS (hr.mono (by decide)) rfl (pa_cons (pv 1) (pa_cons (pv 2) pa_nil))) (pe_callH HS (hr.mono (by decide)) rfl (pa_cons (pv 1) (pa_cons (pv 3) pa_nil))) (nomark _)))))), ?_⟩
    have ml := mok.len
    have nl := nok.len
    refine ⟨_, rfl, rfl, _, rfl, ?_⟩
    rcases hman with rfl | rfl | rfl
    · refine ite2 (fun _ => ?_) (fun hf => absurd (decide_eq_true rfl) hf)
      refine ⟨_, rfl, _, rfl, v, u, ns, ms, rfl, mv, mu, by omega, fun H1 s1 => ?_⟩
      have e : beatM "within" ws ms ns = (inside ns ms && decide (ns.length < ms.length)) := if_pos rfl
      rw [← e]
      exact k H1 s1
    · refine ite2 (fun hf => absurd (V.str.inj (of_decide_eq_true hf)) n_wi) (fun _ => ?_)
      refine ⟨_, rfl, rfl, _, rfl, ?_⟩
      refine ite2 (fun hf => absurd (V.str.inj (of_decide_eq_true hf)) (fun q => n_mostw q.symm)) (fun _ => ?_)
      rcases hw with ⟨hn, _⟩ | ⟨_, mw, hwl, hwb⟩
      · exact absurd rfl hn
      refine ⟨_, rfl, _, rfl, wt, u, ws, ms, rfl, mw, hwl, mu, mok, fun H1 s1 => ?_⟩
      refine ⟨_, rfl, _, rfl, wt, v, ws, ns, rfl, Tup.keep (TFr.same s1) mw, hwl, Tup.keep (TFr.same s1) mv, nok, fun H2 s2 => ?_⟩
      refine ⟨_, _, rfl, rfl, ?_⟩
      have e : beatM "weights" ws ms ns = decide ((ns.map fun m => ws.getD m.toNat 0).sum < (ms.map fun m => ws.getD m.toNat 0).sum) := by
        unfold beatM rk
        rw [if_neg n_wi, if_pos rfl, if_pos rfl]
      have k' := k H2 (s1.trans s2)
      rw [e] at k'
      exact k'
    · refine ite2 (fun hf => absurd (V.str.inj (of_decide_eq_true hf)) n_mosti) (fun _ => ?_)
      refine ⟨_, rfl, rfl, _, rfl, ?_⟩
      refine ite2 (fun _ => ?_) (fun hf => absurd (decide_eq_true rfl) hf)
      obtain ⟨p, rfl, hp⟩ := mu
      obtain ⟨q, rfl, hq⟩ := mv
      refine ⟨_, rfl, _, _, rfl, .inr ⟨_, sqT hp, rfl⟩, _, rfl, _, _, rfl, .inr ⟨_, sqT hq, rfl⟩, _, _, rfl, rfl, ?_⟩
      have e : beatM "most" ws ms ns = decide ((((ns.map V.int).length : Nat) : Int) < (((ms.map V.int).length : Nat) : Int)) := by
        unfold beatM rk
        rw [if_neg n_mosti, if_neg n_mostw, if_neg n_mostw, List.length_map, List.length_map]
      have k' := k H (Same.refl H)
      rw [e] at k'
      exact k'
abbrev sLawSpeaks : Stmt := top 61
theorem scLawSpeaks : FnScope ["manner", "entries", "weights", "cell", "fits", "number", "beaten", "other", "found"] ["manner", "entries", "weights", "cell"] (defScope sLawSpeaks) := ⟨rfl, rfl, rfl, by decide +kernel, rfl, by decide +kernel, by decide +kernel⟩

theorem find_at {α : Type} {p : α → Bool} : ∀ {l : List α} {i : Nat} {x : α}, (∀ y ∈ l.take i, p y = false) → l[i]? = some x → p x = true → l.find? p = some x
  | [], i, x, _, h, _ => by simp at h
  | y :: r, 0, x, _, h, hp => by
    have e : y = x := Option.some.inj h
    subst e
    rw [List.find?_cons, hp]
  | y :: r, i + 1, x, hf, h, hp => by
    have hy := hf y (by simp)
    rw [List.find?_cons, hy]
    exact find_at (i := i) (fun z hz => hf z (List.mem_cons_of_mem _ hz)) h hp
theorem ok_speaks {f : Addr} {fd : FuncData} (F : Fun K "_law_speaks" "_law_speaks" sLawSpeaks f fd) (T : Txt mg) (HF : Has P w K mg base "_law_fits" ["entries", "cell"] 2 (spFits K)) (HB : Has P w K mg base "_law_beats" ["manner", "weights", "one", "other"] 3 spBeats) :
    FnOk P w K mg base CX0 4 f fd ["manner", "entries", "weights", "cell"] (spSpeaks K) := by
  refine F.ok scLawSpeaks (fun vs H Q E h => ?_) (fun cdv A outer s H vs Q E hr h => ?_)
  · obtain ⟨man, p, wt, v, ys, ws, es, ms, rfl, _⟩ := h
    rfl
  · obtain ⟨man, p, wt, v, ys, ws, es, ms, rfl, hman, hw, hp, ents, eok, el, mv, k⟩ := h
    refine ⟨_, (pss_cons (ps_set (i := 4) scLawSpeaks.nd rfl (by first | exact Or.inl rfl | exact Or.inr rfl) (pe_callH HF (hr.mono (by decide)) rfl (pa_cons (pv 1) (pa_cons (pv 3) pa_nil))))
      (pss_cons (ps_if (pt_cmpR op_eq (pe_callB call_len rfl T.len PySem.boot_len (pa_cons (pv 4) pa_nil)) pe_int (nomark _)) (pss_one (ps_ret (pe_tup (pa_cons pe_str pa_nil)))) pss_nil)
      (pss_cons (ps_if (pt_cmpR op_eq (pv 0) pe_str (nomark _)) (pss_one ps_never) pss_nil)
      (pss_cons (ps_for PassesOwn.never rfl (pi_list (pv 4)) (pg_name (i := 5) scLawSpeaks.nd rfl (by first | exact Or.inl rfl | exact Or.inr rfl)) (pss_cons (ps_setLc (i := 6) (own := [("other", 7)]) rfl scLawSpeaks.nd rfl rfl (sw_true rfl rfl rfl (by decide +kernel)) (pi_list (pv 4)) (blkOk_by (N := ["manner", "entries", "weights", "cell", "fits", "number", "beaten", "other", "found"]) (sc := defScope sLawSpeaks) (by decide +kernel)) (fun _ _ _ _ _ => (pg_name (i := 7) scLawSpeaks.nd rfl (by first | exact Or.inl rfl | exact Or.inr rfl))) (fun _ _ _ _ _ => pts_one (pt_val (pe_callH HB (hr.mono (by decide)) rfl (pa_cons (pv 0) (pa_cons (pv 2) (pa_cons (pe_ix (show IxR _ (rIxT K) from ix_tup) (pe_ix (show IxR _ (rIxT K) from ix_tup) (pv 1) (pv 5) (fun _ _ => rfl)) pe_int (fun _ _ => rfl)) (pa_cons (pe_ix (show IxR _ (rIxT K) from ix_tup) (pe_ix (show IxR _ (rIxT K) from ix_tup) (pv 1) (pv 7) (fun _ _ => rfl)) pe_int (fun _ _ => rfl)) pa_nil))))))) (fun _ _ _ _ _ => (pv 7)))
      (pss_one (ps_if (pt_cmpR op_eq (pe_callB call_len rfl T.len PySem.boot_len (pa_cons (pv 6) pa_nil)) (pe_op op_sub (pe_callB call_len rfl T.len PySem.boot_len (pa_cons (pv 4) pa_nil)) pe_int) (nomark _)) (pss_one (ps_ret (pe_tup (pa_cons pe_str (pa_cons (pv 5) pa_nil))))) pss_nil))))
      (pss_cons (ps_set (i := 8) scLawSpeaks.nd rfl (by first | exact Or.inl rfl | exact Or.inr rfl) (pe_lst pa_nil))
      (pss_cons (ps_for PassesOwn.never rfl (pi_list (pv 4)) (pg_name (i := 5) scLawSpeaks.nd rfl (by first | exact Or.inl rfl | exact Or.inr rfl)) (pss_one (ps_if (pt_not (pt_val (pe_callB (cr_any rfl) rfl T.any (by decide +kernel) (pa_cons (pe_lc (own := [("other", 7)]) rfl scLawSpeaks.nd (pi_list (pv 4)) (blkOk_by (N := ["manner", "entries", "weights", "cell", "fits", "number", "beaten", "other", "found"]) (sc := defScope sLawSpeaks) (by decide +kernel)) (fun _ _ _ _ _ => (pg_name (i := 7) scLawSpeaks.nd rfl (by first | exact Or.inl rfl | exact Or.inr rfl))) (fun _ _ _ _ _ => pts_nil) (fun _ _ _ _ _ => (pe_callH HB (hr.mono (by decide)) rfl (pa_cons (pv 0) (pa_cons (pv 2) (pa_cons (pe_ix (show IxR _ (rIxT K) from ix_tup) (pe_ix (show IxR _ (rIxT K) from ix_tup) (pv 1) (pv 7) (fun _ _ => rfl)) pe_int (fun _ _ => rfl)) (pa_cons (pe_ix (show IxR _ (rIxT K) from ix_tup) (pe_ix (show IxR _ (rIxT K) from ix_tup) (pv 1) (pv 5) (fun _ _ => rfl)) pe_int (fun _ _ => rfl)) pa_nil))))))) pa_nil)))) (pss_one (ps_expr (pe_bm PySem.F.plainAttrs_list PySem.F.slot_list_append PySem.F.type_list_append mt_append (pv 8) (pa_cons (pv 5) pa_nil)))) pss_nil)))
      (pss_one (ps_ret (pe_tup (pa_cons pe_str (pa_cons (pe_callTy call_tuple_of rfl T.tuple (by decide +kernel) (pa_cons (pv 8) pa_nil)) pa_nil))))))))))), ?_⟩
    refine ⟨_, rfl, _, rfl, p, v, ys, es, ms, rfl, hp, ents, eok, el, mv, fun q H1 hq s1 => ?_⟩
    refine ⟨_, rfl, _, _, rfl, .inl ⟨_, SqL.of hq, rfl⟩, rfl, _, rfl, ?_⟩
    by_cases hne : fitN es ms = []
    · rw [hne] at hq k
      rw [hne]
      refine iteT ⟨(by show 1 ≤ sizeLine; decide), fun t ht => ?_⟩
      exact k _ _ ⟨t, rfl, upd_same⟩ (s1.trans (Same.new ht))
    have hjl := fitN_len es ms
    have hlt := fit_lt (es := es) (ms := ms)
    have unf : lawRes (fitN es ms) (beatA man ws es) = match (fitN es ms).find? (winC (fitN es ms) (beatA man ws es)) with
        | some n => .ent n
        | none => .qua ((fitN es ms).filter (maxB (fitN es ms) (beatA man ws es))) := if_neg hne
    rw [unf] at k
    clear unf
    generalize hjs : fitN es ms = js at *
    clear hjs
    have hjs0 : 0 < js.length := List.length_pos_iff.mpr hne
    refine ite2 (fun hf => ?_) (fun _ => ?_)
    · have := V.int.inj (of_decide_eq_true hf)
      rw [List.length_map, nat2_len] at this
      omega
    refine ⟨_, rfl, rfl, _, rfl, ?_⟩
    refine ite2 (fun hf => absurd (V.str.inj (of_decide_eq_true hf)) (man3_row hman)) (fun _ => ?_)
    have two : ∀ {H4 : Hp}, Same H1 H4 → ∀ j o, j ∈ js → o ∈ js → ∃ (r1 r2 : Addr) (u1 u2 : V) (e1 e2 : Ent), ys[j]? = some (.ref r1) ∧ ys[o]? = some (.ref r2) ∧ H4 r1 = some (.tup [u1, .str e1.2]) ∧ H4 r2 = some (.tup [u2, .str e2.2]) ∧ Xci.Mk H4 u1 e1.1 ∧ Xci.Mk H4 u2 e2.1 ∧ MarksOk 6 e1.1 ∧ MarksOk 6 e2.1 ∧ beatA man ws es j o = beatM man ws e1.1 e2.1 := by
      intro H4 s4 j o hj ho
      have s14 := s1.trans s4
      obtain ⟨r1, u1, e1, a1, b1, c1, d1⟩ := ent_at ents (hlt j hj)
      obtain ⟨r2, u2, e2, a2, b2, c2, d2⟩ := ent_at ents (hlt o ho)
      exact ⟨r1, r2, u1, u2, e1, e2, a1, a2, s14 _ _ b1, s14 _ _ b2, Tup.keep (TFr.same s14) c1, Tup.keep (TFr.same s14) c2, mk_ent eok d1, mk_ent eok d2, by unfold beatA; rw [mkA_at d1, mkA_at d2]⟩
    refine ⟨_, rfl, q, rfl, ⟨_, SqL.of hq⟩, for_list (K := K) (a := q) (xs := (nat2 js).map V.int) (fun i σ H4 => Same H1 H4 ∧ (∀ j ∈ js.take i, winC js (beatA man ws es) j = false) ∧ ∃ v5 v6 : Option V, σ = [some (.str man), some (.ref p), some wt, some v, some (.ref q), v5, v6, none, none])
      ⟨Same.refl _, by simp, none, none, rfl⟩ (fun i σ H4 _ ⟨s4, _⟩ => SqL.of (s4 _ _ hq)) ?_ ?_⟩
    · rintro i y σ H4 hi ⟨s4, hno, v5, v6, rfl⟩
      obtain ⟨j, hj, rfl⟩ := num_of hi
      have hjm := List.mem_of_getElem? hj
      refine ⟨_, rfl, q, rfl, ⟨_, SqL.of (s4 _ _ hq)⟩, fun D hD => ?_⟩
      refine lc_list (K := K) (a := q) (xs := (nat2 js).map V.int) (fun n H5 => Same H4 H5 ∧ H5 D = some (.lst ((nat2 ((js.take n).filter (beatA man ws es j))).map V.int))) ⟨Same.new hD, upd_same⟩ (fun n H5 _ ⟨s5, _⟩ => SqL.of (s5 _ _ (s4 _ _ hq))) ?_ ?_
      · rintro n y H5 hn ⟨s5, e5⟩
        obtain ⟨o, ho, rfl⟩ := num_of hn
        have s15 := s4.trans s5
        obtain ⟨r1, r2, u1, u2, e1, e2, a1, a2, b1, b2, c1, c2, d1, d2, be⟩ := two s15 j o hjm (List.mem_of_getElem? ho)
        have hp5 := s15 _ _ (s1 _ _ hp)
        refine ⟨rfl, _, rfl, _, rfl, _, rfl, _, rfl, p, _, _, _, rfl, rfl, sqT hp5, at_of (j := j) rfl a1, r1, _, _, _, rfl, rfl, sqT b1, at_of (j := 0) rfl rfl, _, rfl, _, rfl, p, _, _, _, rfl, rfl, sqT hp5, at_of (j := o) rfl a2, r2, _, _, _, rfl, rfl, sqT b2, at_of (j := 0) rfl rfl,
          man, wt, u1, u2, ws, e1.1, e2.1, rfl, hman, hw.keep (TFr.same (s1.trans s15)), c1, c2, d1, d2, fun H6 s6 => ⟨_, rfl, ?_⟩⟩
        have e6 := s6 _ _ e5
        rw [← be]
        have nlt := (List.getElem?_eq_some_iff.mp ho).1
        refine ite2 (fun hb => ?_) (fun hb => ?_)
        · refine ⟨_, rfl, _, e6, ?_, fun b o h => by rw [upd_ne (ne_of_none h hD)]; exact s6 _ _ (s5 b o h), ?_⟩
          · rw [List.length_map, nat2_len]
            exact small1000 (Nat.le_trans (List.length_filter_le _ _) (by rw [List.length_take]; omega))
          · rw [upd_same, filt_snoc ho, if_pos hb, nat2_app, List.map_append]
            rfl
        · refine ⟨s5.trans s6, ?_⟩
          rw [e6, filt_snoc ho, if_neg hb, List.append_nil]
      · rintro H5 ⟨s5, e5⟩
        rw [List.length_map, nat2_len, List.take_length] at e5
        have s15 := s4.trans s5
        refine ⟨_, rfl, _, _, rfl, .inl ⟨_, SqL.of e5, rfl⟩, _, rfl, _, _, rfl, .inl ⟨_, SqL.of (s15 _ _ hq), rfl⟩, _, _, rfl, rfl, rfl, _, rfl, ?_⟩
        have cond : decide (V.int ((((nat2 (js.filter (beatA man ws es j))).map V.int).length : Nat) : Int) = V.int (((((nat2 js).map V.int).length : Nat) : Int) - 1)) = winC js (beatA man ws es) j := by
          unfold winC
          rw [Bool.eq_iff_iff, decide_eq_true_iff, decide_eq_true_iff, List.length_map, List.length_map, nat2_len, nat2_len]
          constructor
          · intro h
            have := V.int.inj h
            omega
          · intro h
            congr 1
            omega
        refine ite2 (fun hf => ?_) (fun hf => ?_)
        · have hf' := cond.symm.trans hf
          have fd := find_at hno hj hf'
          rw [fd] at k
          refine ⟨_, rfl, (by show 2 ≤ sizeLine; decide), fun t ht => ?_⟩
          exact k _ _ ⟨t, rfl, upd_same⟩ ((s1.trans s15).trans (Same.new ht))
        · have hf' : winC js (beatA man ws es) j = false := by
            cases h : winC js (beatA man ws es) j with
            | false => rfl
            | true => exact absurd (cond.trans h) hf
          refine ⟨s15, fun m hm => ?_, _, _, rfl⟩
          rw [List.take_add_one, hj] at hm
          rcases List.mem_append.mp hm with h | h
          · exact hno m h
          · rw [List.mem_singleton.mp h]; exact hf'
    · rintro σ H4 ⟨s4, hno, v5, v6, rfl⟩
      rw [List.length_map, nat2_len, List.take_length] at hno
      have fd : js.find? (winC js (beatA man ws es)) = none := List.find?_eq_none.mpr fun x hx => by rw [hno x hx]; exact Bool.false_ne_true
      rw [fd] at k
      refine ⟨Nat.zero_le _, fun L hL => ?_⟩
      have s5 : Same H4 (upd H4 L (.lst [])) := Same.new hL
      have e5 : (upd H4 L (.lst [])) L = some (.lst []) := upd_same
      have hL1 : H1 L = Option.none := s4.free hL
      generalize upd H4 L (.lst []) = H5 at *
      have f15 : ∀ b o, H1 b = some o → b ≠ L → H5 b = some o := fun b o h _ => s5 _ _ (s4 _ _ h)
      refine ⟨_, rfl, q, rfl, ⟨_, SqL.of (s5 _ _ (s4 _ _ hq))⟩, for_list (K := K) (a := q) (xs := (nat2 js).map V.int) (fun i σ H6 => Same H1 H6 ∧ H6 L = some (.lst ((nat2 ((js.take i).filter (maxB js (beatA man ws es)))).map V.int)) ∧ ∃ v5 v6 : Option V, σ = [some (.str man), some (.ref p), some wt, some v, some (.ref q), v5, v6, none, some (.ref L)])
        ⟨s4.trans s5, e5, _, _, rfl⟩ (fun i σ H6 _ ⟨s6, _⟩ => SqL.of (s6 _ _ hq)) ?_ ?_⟩
      · rintro i y σ H6 hi ⟨s6, e6, v5, v6, rfl⟩
        obtain ⟨j, hj, rfl⟩ := num_of hi
        have hjm := List.mem_of_getElem? hj
        have hlt1 := (List.getElem?_eq_some_iff.mp hj).1
        refine ⟨_, rfl, q, rfl, ⟨_, SqL.of (s6 _ _ hq)⟩, fun D hD => ?_⟩
        refine lc_list (K := K) (a := q) (xs := (nat2 js).map V.int) (fun n H7 => Same H6 H7 ∧ H7 D = some (.lst (((js.take n).map fun o => beatA man ws es o j).map V.bl))) ⟨Same.new hD, upd_same⟩ (fun n H7 _ ⟨s7, _⟩ => SqL.of (s7 _ _ (s6 _ _ hq))) ?_ ?_
        · rintro n y H7 hn ⟨s7, e7⟩
          obtain ⟨o, ho, rfl⟩ := num_of hn
          have s17 := s6.trans s7
          obtain ⟨r1, r2, u1, u2, e1, e2, a1, a2, b1, b2, c1, c2, d1, d2, be⟩ := two s17 o j (List.mem_of_getElem? ho) hjm
          have hp7 := s17 _ _ (s1 _ _ hp)
          refine ⟨rfl, _, rfl, _, rfl, _, rfl, _, rfl, p, _, _, _, rfl, rfl, sqT hp7, at_of (j := o) rfl a1, r1, _, _, _, rfl, rfl, sqT b1, at_of (j := 0) rfl rfl, _, rfl, _, rfl, p, _, _, _, rfl, rfl, sqT hp7, at_of (j := j) rfl a2, r2, _, _, _, rfl, rfl, sqT b2, at_of (j := 0) rfl rfl,
            man, wt, u1, u2, ws, e1.1, e2.1, rfl, hman, hw.keep (TFr.same (s1.trans s17)), c1, c2, d1, d2, fun H8 s8 => ?_⟩
          have nlt := (List.getElem?_eq_some_iff.mp ho).1
          refine ⟨_, s8 _ _ e7, by rw [List.length_map, List.length_map, List.length_take]; exact small1000 (by omega), fun b o h => by rw [upd_ne (ne_of_none h hD)]; exact s8 _ _ (s7 b o h), ?_⟩
          rw [upd_same, take_map ho, List.map_append, ← be]
          rfl
        · rintro H7 ⟨s7, e7⟩
          rw [List.length_map, nat2_len, List.take_length] at e7
          refine ⟨D, _, rfl, SqL.of e7, _, rfl, ?_⟩
          have cond : (!((js.map fun o => beatA man ws es o j).any id)) = maxB js (beatA man ws es) j := by
            unfold maxB
            rw [List.any_map]
            rfl
          have eL := s7 _ _ e6
          refine ite2 (fun hb => ?_) (fun hb => ?_)
          · have hb := cond.symm.trans hb
            refine ⟨_, rfl, .inl ⟨rfl, _, SqL.of eL⟩, _, rfl, L, _, _, rfl, rfl, eL, ?_, ?_⟩
            · rw [List.length_map, nat2_len]
              exact small1000 (Nat.le_trans (List.length_filter_le _ _) (by rw [List.length_take]; omega))
            · refine ⟨fun b o h => by rw [upd_ne (ne_of_none h hL1)]; exact s7 _ _ (s6 b o h), ?_, _, _, rfl⟩
              rw [upd_same, filt_snoc hj, if_pos hb, nat2_app, List.map_append]
              rfl
          · have hb : ¬ maxB js (beatA man ws es) j = true := fun e => hb (cond.trans e)
            refine ⟨s6.trans s7, ?_, _, _, rfl⟩
            rw [eL, filt_snoc hj, if_neg hb, List.append_nil]
      · rintro σ H6 ⟨s6, e6, v5, v6, rfl⟩
        rw [List.length_map, nat2_len, List.take_length] at e6
        refine ⟨_, rfl, L, _, rfl, .inl ⟨SqL.of e6, fun t ht => ⟨(by show 2 ≤ sizeLine; decide), fun t2 ht2 => ?_⟩⟩⟩
        have q1 : Same H6 (upd H6 t (.tup ((nat2 (js.filter (maxB js (beatA man ws es)))).map V.int))) := Same.new ht
        have q2 : Same (upd H6 t (.tup ((nat2 (js.filter (maxB js (beatA man ws es)))).map V.int))) _ := Same.new (o := .tup [.str "quarrel", .ref t]) ht2
        exact k _ _ ⟨t, ⟨t2, rfl, upd_same⟩, q2 _ _ upd_same⟩ ((s1.trans s6).trans (q1.trans q2))

end
end Xci

namespace Xci
open PySem L2
section
variable {P : Program} {w : World} {K : PySem.W.Frag} {mg : Str → Option Value} {base : Heap}
theorem ok_speakingRow {f C aM : Addr} {fd : FuncData} (F : Fun K "speaking" "speaking" sSpeaking f fd) (B : BkTxt K mg C aM) : FnOk P w K mg base CX0 1 f fd ["book", "numbers"] (spSpeakingRow C) := by
  refine F.ok scSpeaking (fun vs H Q E h => ?_) (fun cdv A outer s H vs Q E hr h => ?_)
  · obtain ⟨b, p, q, wt, js, rfl, _⟩ := h
    rfl
  · obtain ⟨b, p, q, wt, js, rfl, ⟨dx, hb⟩, hq, k⟩ := h
    refine ⟨_, (pss_cons (ps_if (pt_not (pt_truth (pv 1) (fun _ => rfl))) (pss_one (ps_ret pe_non)) pss_nil)
      (pss_cons (ps_if (pt_cmpR op_eq (pe_fld (pv 0) rfl) pe_str (nomark _)) (pss_one (ps_ret (pe_ix ix_tup (pv 1) pe_int (fun _ _ => rfl)))) pss_nil)
      pss_never)), ?_⟩
    refine ⟨_, rfl, _, .inr (.inl ⟨_, sqT hq, rfl⟩), ?_⟩
    cases js with
    | nil => exact iteT k
    | cons j r =>
      refine iteF ?_
      refine ⟨_, rfl, b, C, dx, _, _, rfl, hb, B.cl, B.nM, bf_manner _ _ _, rfl, _, rfl, ?_⟩
      refine ite2 (fun _ => ?_) (fun hf => absurd (decide_eq_true rfl) hf)
      exact ⟨_, rfl, q, _, _, _, rfl, rfl, sqT hq, at_of (j := 0) rfl rfl, k⟩
/-- which one of the fitting entries speaks, in any manner -/
def spWho (C : Addr) : Sp := fun vs H Q _ => ∃ (b q : Addr) (man : Str) (ws : List Int) (es : List Ent) (ms : List Int), vs = [.ref b, .ref q] ∧ BookSt C H b man ws es ∧ Man man ∧ Nums H q (fitN es ms) ∧ ∀ H', Same H H' → Q (numV (whoN man ws es ms)) H'
theorem ok_who {f C : Addr} {fd : FuncData} (g : FnOk P w K mg base CX0 3 f fd ["book", "numbers"] (spSpeaking C)) (g' : FnOk P w K mg base CX0 1 f fd ["book", "numbers"] (spSpeakingRow C)) : FnOk P w K mg base CX0 3 f fd ["book", "numbers"] (spWho C) :=
  ok_imp (ok_both g (g'.mono (by decide))) fun vs H Q E ⟨b, q, man, ws, es, ms, e, bs, hm, hq, k⟩ => by
    subst e
    rcases n_row3 hm with rfl | ⟨hn, h3⟩
    · obtain ⟨p, wt, ys, hb, _⟩ := bs.ex
      refine .inr ⟨b, p, q, wt, fitN es ms, rfl, hb, hq, ?_⟩
      rw [← who_row ws]
      exact k H (Same.refl H)
    · refine .inl ⟨b, q, man, ws, es, fitN es ms, rfl, bs, h3, hq, fit_lt, fit_nd _ _, Nat.le_trans (fitN_len es ms) bs.len, fun H' s => ?_⟩
      rw [← who_res hn]
      exact k H' s
def spHeardN (C : Addr) : Sp := fun vs H Q _ => ∃ (b q : Addr) (man : Str) (ws : List Int) (es : List Ent) (ms : List Int), vs = [.ref b, .ref q] ∧ BookSt C H b man ws es ∧ Man man ∧ Nums H q (fitN es ms) ∧ ∀ H', Same H H' → Q (formV (heard man ws es ms)) H'
abbrev sFormAmong : Stmt := top 34
theorem scFormAmong : FnScope ["book", "numbers", "number"] ["book", "numbers"] (defScope sFormAmong) := ⟨rfl, rfl, rfl, by decide +kernel, rfl, by decide +kernel, by decide +kernel⟩

theorem ok_among {f C aM : Addr} {fd : FuncData} (F : Fun K "form_among" "form_among" sFormAmong f fd) (B : BkTxt K mg C aM) (HSp : Has P w K mg base "speaking" ["book", "numbers"] 3 (spWho C)) : FnOk P w K mg base CX0 4 f fd ["book", "numbers"] (spHeardN C) := by
  refine F.ok scFormAmong (fun vs H Q E h => ?_) (fun cdv A outer s H vs Q E hr h => ?_)
  · obtain ⟨b, q, man, ws, es, ms, rfl, _⟩ := h
    rfl
  · obtain ⟨b, q, man, ws, es, ms, rfl, bs, hm, hq, k⟩ := h
    refine ⟨_, (pss_cons (ps_set (i := 2) scFormAmong.nd rfl (by first | exact Or.inl rfl | exact Or.inr rfl) (pe_callH HSp (hr.mono (by decide)) rfl (pa_cons (pv 0) (pa_cons (pv 1) pa_nil))))
      (pss_one (ps_ret (pe_ifExp (pt_cmpR op_isN (pv 2) pe_non (nomark _)) pe_non (pe_ix ix_tup (pe_ix ix_tup (pe_fld (pv 0) rfl) (pv 2) (fun _ _ => rfl)) pe_int (fun _ _ => rfl)))))), ?_⟩
    refine ⟨_, rfl, _, rfl, b, q, man, ws, es, ms, rfl, bs, hm, hq, fun H1 s1 => ?_⟩
    obtain ⟨p, wt, ys, ⟨dx, hb⟩, hp, ents, _⟩ := (bs.same s1).ex
    have k1 := k H1 s1
    cases hw : whoN man ws es ms with
    | none =>
      rw [heard_non hw] at k1
      refine ⟨_, rfl, rfl, _, rfl, ?_⟩
      refine iteT ?_
      exact k1
    | some j =>
      obtain ⟨r, u, e, hy, hr0, mu, he⟩ := ent_at ents (who_lt hw)
      rw [heard_at hw he] at k1
      refine ⟨_, rfl, rfl, _, rfl, ?_⟩
      refine iteF ?_
      exact ⟨_, rfl, b, C, dx, _, _, rfl, hb, B.cl, B.nE, bf_entries _ _ _, _, rfl, p, _, _, _, rfl, rfl, sqT hp, at_of (j := j) rfl hy, r, _, _, _, rfl, rfl, sqT hr0, at_of (j := 1) rfl rfl, k1⟩
def spHeard (C : Addr) : Sp := fun vs H Q _ => ∃ (b : Addr) (v : V) (man : Str) (ws : List Int) (es : List Ent) (ms : List Int), vs = [.ref b, v] ∧ BookSt C H b man ws es ∧ Man man ∧ Xci.Mk H v ms ∧ MarksOk 6 ms ∧ ∀ H', Same H H' → Q (formV (heard man ws es ms)) H'
abbrev sFormAt : Stmt := top 35
theorem scFormAt : FnScope ["book", "cell"] ["book", "cell"] (defScope sFormAt) := ⟨rfl, rfl, rfl, by decide +kernel, rfl, by decide +kernel, by decide +kernel⟩

theorem ok_formAt {f C : Addr} {fd : FuncData} (F : Fun K "_form_at" "_form_at" sFormAt f fd) (HFi : Has P w K mg base "fitting" ["book", "cell"] 4 (spFitting C)) (HAm : Has P w K mg base "form_among" ["book", "numbers"] 4 (spHeardN C)) : FnOk P w K mg base CX0 5 f fd ["book", "cell"] (spHeard C) := by
  refine F.ok scFormAt (fun vs H Q E h => ?_) (fun cdv A outer s H vs Q E hr h => ?_)
  · obtain ⟨b, v, man, ws, es, ms, rfl, _⟩ := h
    rfl
  · obtain ⟨b, v, man, ws, es, ms, rfl, bs, hm, mv, mok, k⟩ := h
    refine ⟨_, (pss_one (ps_ret (pe_callH HAm (hr.mono (by decide)) rfl (pa_cons (pv 0) (pa_cons (pe_callH HFi (hr.mono (by decide)) rfl (pa_cons (pv 0) (pa_cons (pv 1) pa_nil))) pa_nil))))), ?_⟩
    obtain ⟨p, wt, ys, hb, hp, ents, _⟩ := bs.ex
    refine ⟨_, rfl, _, rfl, _, rfl, b, p, man, wt, v, ys, es, ms, rfl, hb, hp, ents, bs.ok, bs.len, mv, mok, fun q H1 hq s1 => ?_⟩
    exact ⟨b, q, man, ws, es, ms, rfl, bs.same s1, hm, hq, fun H2 s2 => k H2 (s1.trans s2)⟩
end
end Xci

namespace Xci
open PySem L2
section
variable {P : Program} {w : World} {K : PySem.W.Frag} {mg : Str → Option Value} {base : Heap}
theorem walk_zipT {K : PySem.W.Frag} {a b : Addr} {xs ys : List V} (hl : xs.length = ys.length) : Walk (RZ.ItzT K a b) xs.length (fun H => SqT K H a xs ∧ SqT K H b ys) (fun i H v H' => ∃ T x y, v = .ref T ∧ H T = none ∧ H' = upd H T (.tup [x, y]) ∧ xs[i]? = some x ∧ ys[i]? = some y) :=
  ⟨fun i H hi q => ⟨xs, ys, xs[i], ys[i]'(hl ▸ hi), q.1, q.2, List.getElem?_eq_getElem hi, List.getElem?_eq_getElem (hl ▸ hi)⟩, fun H q => ⟨xs, ys, q.1, q.2, .inl (Nat.le_refl _)⟩, fun i H v H' hi q ⟨T, x, y, e1, e2, e3, f, g⟩ => ⟨T, x, y, e1, e2, e3, f xs q.1, g ys q.2⟩⟩
/-- what tells that an instance is one of its class -/
structure ClsTy (K : PySem.W.Frag) (C : Addr) : Prop where
  cl : Cls K C
  ha : PySem.W.findIn K (.ref C) "__class__" = some (some (.builtin "object.__class__"))
  hn : PySem.W.specialIn K (.builtin "object.__class__") "__get__" = some (some (.builtin "getset_descriptor.__get__"))
  htk : PySem.W.takesIn K (.builtin "object.__class__") = some true
  hm : PySem.W.mroIn K C (.type "object") = some true
theorem ClsTy.is {C a dx : Addr} {fs : List (Str × V)} {H : Hp} (c : ClsTy K C) (h : H a = some (.ins C dx fs)) : TyX K H (.ref a) (.ref C) := .base (.ins h c.cl c.ha c.hn c.htk c.hm)
theorem kit_own (C : Addr) : PySem.W.kitOne K (.ref C) (.ref C) = some true := by
  unfold PySem.W.kitOne
  rw [if_pos (beq_self_eq_true _)]
/-- one family, told by the same tuple of cells -/
def FamSame (CF : Addr) (a b : Addr) (H : Hp) : Prop := ∃ (many : Int) (p : Addr) (ys : List V) (cells : List (List Int)), FamAt CF H a many p ∧ FamAt CF H b many p ∧ H p = some (.tup ys) ∧ Mks H ys cells
theorem dp_rowsT {H : Hp} : ∀ {ys : List V} {cs : List (List Int)}, Mks H ys cs → DpAll K H ys (cs.map fun c => PyData.tuple (c.map PyData.int))
  | _, _, .nil => .nil
  | _, _, .cons m r => .cons (dp_marks m) (dp_rowsT r)
theorem sh_rowsT (cs : List (List Int)) : SeqAt.shaped (.tuple (cs.map fun c => PyData.tuple (c.map PyData.int))) = true := by
  obtain ⟨a, b⟩ := lay_rows cs
  have d : PyData.depth (.tuple (cs.map fun c => PyData.tuple (c.map PyData.int))) ≤ 64 := by
    simp only [PyData.depth]
    omega
  unfold SeqAt.shaped
  rw [decide_eq_true d, Bool.and_true]
  simpa [PyData.canLay0] using a
abbrev sFamilyEq : Stmt := inClass (top 42) 1
theorem scFamilyEq : FnScope ["self", "other"] ["self", "other"] (defScope sFamilyEq) := ⟨rfl, rfl, rfl, by decide +kernel, rfl, by decide +kernel, by decide +kernel⟩

theorem ok_famEq {f C : Addr} {fd : FuncData} (F : Fun K "__eq__" "Family.__eq__" sFamilyEq f fd) (T : Txt mg) (FT : FamTxt K mg C) (CT : ClsTy K C) : FnOk P w K mg base CX0 1 f fd ["self", "other"] (spEq (FamSame C)) := by
  refine F.ok scFamilyEq (fun vs H Q E h => ?_) (fun cdv A outer s H vs Q E hr h => ?_)
  · obtain ⟨a, b, rfl, _⟩ := h
    rfl
  · obtain ⟨a, b, rfl, ⟨many, p, ys, cells, ⟨dx, ha⟩, ⟨dy, hb⟩, hp, ms⟩, k⟩ := h
    refine ⟨_, (pss_one (ps_ret (pe_and (pe_callB call_isi rfl T.isinstance (by decide +kernel) (pa_cons (pv 1) (pa_cons (pe_glob (v := .ref C) rfl FT.mgC rfl) pa_nil))) (pe_and (pe_cmpR op_eq (pe_fld (pv 0) rfl) (pe_fld (pv 1) rfl) (nomark _)) (pe_one (pe_cmpR (op_eqD (hu64 hr)) (pe_fld (pv 0) rfl) (pe_fld (pv 1) rfl) (nomark _))))))), ?_⟩
    refine ⟨_, rfl, _, _, _, _, true, rfl, .own C, CT.is hb, kit_own C, _, rfl, ?_⟩
    refine ⟨_, rfl, a, C, dx, _, _, rfl, ha, FT.cl, FT.nM, famF_many _ _, _, rfl, b, C, dy, _, _, rfl, hb, FT.cl, FT.nM, famF_many _ _, rfl, _, rfl, ?_⟩
    refine ite2 (fun _ => ?_) (fun hf => absurd (decide_eq_true rfl) hf)
    refine ⟨_, rfl, a, C, dx, _, _, rfl, ha, FT.cl, FT.nC, famF_cells _ _, _, rfl, b, C, dy, _, _, rfl, hb, FT.cl, FT.nC, famF_cells _ _, ?_⟩
    refine ⟨_, _, .tup (sqT hp) (dp_rowsT ms), .tup (sqT hp) (dp_rowsT ms), sh_rowsT _, sh_rowsT _, ?_⟩
    rw [eqv_same (sh_rowsT cells)]
    exact k H Ext.rfl'
/-- the own == of a class -/
structure HasE (P : Program) (w : World) (K : PySem.W.Frag) (mg : Str → Option Value) (base : Heap) (C : Addr) (k : Nat) (R : Addr → Addr → Hp → Prop) : Prop where
  ex : ∃ (f : Addr) (fd : FuncData), FnOk P w K mg base CX0 k f fd ["self", "other"] (spEq R) ∧ PySem.W.findIn K (.ref C) "__eq__" = some (some (.ref f)) ∧ PySem.W.isFn K (.ref f) = true ∧ Binds K fd ["self", "other"] []
theorem op_eqH {X : Cx} {C : Addr} {k : Nat} {R : Addr → Addr → Hp → Prop} (h : HasE X.prog X.w X.K X.mg X.base C k R) (hr : Room k X.A) : OpR X (compareOp .Eq) (rEqG (DIns C R)) := by
  obtain ⟨f, fd, F, e, i, b⟩ := h.ex
  exact op_eqG (rcG_ins F e i b pass0) hr
def spLimited (CF C : Addr) : Sp := fun vs H Q _ => ∃ (fam p : Addr) (many : Int) (pc : Addr) (ys : List V) (fs : List (Option Str)), vs = [.ref fam, .ref p] ∧ FamAt CF H fam many pc ∧ H pc = some (.tup ys) ∧ H p = some (.tup (fs.map formV)) ∧ FormsOk ys.length fs ∧
  ∀ (t : Addr) (H' : Hp), TabAt C H' t fam p → Same H H' → Q (.ref t) H'
abbrev sLimited : Stmt := top 19
theorem scLimited : FnScope ["family", "forms"] ["family", "forms"] (defScope sLimited) := ⟨rfl, rfl, rfl, by decide +kernel, rfl, by decide +kernel, by decide +kernel⟩

theorem ok_limited {f C CF : Addr} {fd : FuncData} (F : Fun K "limited" "limited" sLimited f fd) (T : Txt mg) (c : TabCst mg) (HU : Has P w K mg base "_unlike" ["forms"] 1 spUnlike) (HTb : HasC P w K mg base "Table" C ["self", "family", "forms"] 3 (spTab CF C)) :
    FnOk P w K mg base CX0 5 f fd ["family", "forms"] (spLimited CF C) := by
  refine F.ok scLimited (fun vs H Q E h => ?_) (fun cdv A outer s H vs Q E hr h => ?_)
  · obtain ⟨fam, p, many, pc, ys, fs, rfl, _⟩ := h
    rfl
  · obtain ⟨fam, p, many, pc, ys, fs, rfl, ⟨df, hf⟩, hc, hp, ok, k⟩ := h
    refine ⟨_, (pss_cons (ps_if (pt_cmpR op_gt (pe_callB call_len rfl T.len PySem.boot_len (pa_cons (pe_callH HU (hr.mono (by decide)) rfl (pa_cons (pv 1) pa_nil)) pa_nil)) (pe_gint rfl c.MOST_FORMS) (nomark _)) (pss_one ps_never) pss_nil)
      (pss_one (ps_ret (pe_makeH HTb (hr.mono (by decide)) rfl (pa_cons (pv 0) (pa_cons (pv 1) pa_nil)))))), ?_⟩
    have size := ok.len
    have few := ok.few
    refine ⟨_, rfl, p, fs, rfl, hp, by omega, fun q zs H1 rise hq s1 => ?_⟩
    refine ⟨_, zs.length, rfl, .inl ⟨_, SqL.of hq, by rw [List.length_map]⟩, _, _, rfl, rfl, _, rfl, ?_⟩
    refine ite2 (fun hf => ?_) (fun _ => ?_)
    · have hf' : (12 : Int) < ((zs.length : Nat) : Int) := of_decide_eq_true hf
      have := ok.unlike zs rise
      omega
    refine ⟨_, rfl, _, rfl, ?_⟩
    intro y dy ny ndy ney
    have s6 : Same H1 (upd (upd H1 dy (.own y)) y (.ins C dy [])) := fun b o e => by rw [upd_ne (ne_of_none e ny), upd_ne (ne_of_none e ndy)]; exact e
    have nf : y ≠ fam := (ne_of_none (s1 _ _ hf) ny).symm
    refine ⟨y, dy, fam, many, pc, ys, p, fs, rfl, upd_same, ⟨df, s6 _ _ (s1 _ _ hf)⟩, nf, s6 _ _ (s1 _ _ hc), s6 _ _ (s1 _ _ hp), ok, fun H6 ht kq => ?_⟩
    have s56 : Same H1 H6 := fun b o e => kq b o (s6 b o e) (ne_of_none e ny)
    exact ⟨rfl, k y H6 ht (s1.trans s56)⟩
def spMade (CF C CB : Addr) : Sp := fun vs H Q _ => ∃ (b fam : Addr) (man : Str) (ws : List Int) (es : List Ent) (many : Int) (pc : Addr) (cy : List V) (cells : List (List Int)), vs = [.ref b, .ref fam] ∧ BookSt CB H b man ws es ∧ Man man ∧ FamAt CF H fam many pc ∧ H pc = some (.tup cy) ∧ Mks H cy cells ∧ FamOk many cells ∧ es.length ≤ 12 ∧
  ∀ (t p : Addr) (H' : Hp), TabAt C H' t fam p → H' p = some (.tup ((heardAll man ws es cells).map formV)) → Same H H' → Q (.ref t) H'
def spFormsMade (CF CB : Addr) : Sp := fun vs H Q _ => ∃ (b fam : Addr) (man : Str) (ws : List Int) (es : List Ent) (many : Int) (pc : Addr) (cy : List V) (cells : List (List Int)), vs = [.ref b, .ref fam] ∧ BookSt CB H b man ws es ∧ Man man ∧ FamAt CF H fam many pc ∧ H pc = some (.tup cy) ∧ Mks H cy cells ∧ FamOk many cells ∧
  ∀ (p : Addr) (H' : Hp), H' p = some (.tup ((heardAll man ws es cells).map formV)) → Same H H' → Q (.ref p) H'
abbrev sFormsMade : Stmt := top 36
theorem scFormsMade : FnScope ["book", "family", "cell"] ["book", "family"] (defScope sFormsMade) := ⟨rfl, rfl, rfl, by decide +kernel, rfl, by decide +kernel, by decide +kernel⟩

theorem ok_formsMade {f CF CB : Addr} {fd : FuncData} (F : Fun K "forms_made" "forms_made" sFormsMade f fd) (T : Txt mg) (FT : FamTxt K mg CF) (HFA : Has P w K mg base "_form_at" ["book", "cell"] 5 (spHeard CB)) :
    FnOk P w K mg base CX0 6 f fd ["book", "family"] (spFormsMade CF CB) := by
  refine F.ok scFormsMade (fun vs H Q E h => ?_) (fun cdv A outer s H vs Q E hr h => ?_)
  · obtain ⟨b, fam, man, ws, es, many, pc, cy, cells, rfl, _⟩ := h
    rfl
  · obtain ⟨b, fam, man, ws, es, many, pc, cy, cells, rfl, bs, hm, ⟨df, hf⟩, cp, cm, fok, k⟩ := h
    refine ⟨_, (pss_one (ps_ret (pe_callTy call_tuple_of rfl T.tuple (by decide +kernel) (pa_cons (pe_lc (own := [("cell", 2)]) rfl scFormsMade.nd (pi_tup (pe_fld (pv 1) rfl)) (blkOk_by (N := ["book", "family", "cell"]) (sc := defScope sFormsMade) (by decide +kernel)) (fun _ _ _ _ _ => (pg_name (i := 2) scFormsMade.nd rfl (by first | exact Or.inl rfl | exact Or.inr rfl))) (fun _ _ _ _ _ => pts_nil) (fun _ _ _ _ _ => (pe_callH HFA (hr.mono (by decide)) rfl (pa_cons (pv 0) (pa_cons (pv 2) pa_nil))))) pa_nil)))), ?_⟩
    have cyl : cy.length = cells.length := Paired.length cm
    have few := fok.len
    refine ⟨_, rfl, fam, CF, df, _, _, rfl, hf, FT.cl, FT.nC, famF_cells _ _, pc, rfl, ⟨_, sqT cp⟩, fun D hD => ?_⟩
    refine lc_tup (K := K) (a := pc) (xs := cy) (fun i H4 => Same H H4 ∧ H4 D = some (.lst (((heardAll man ws es cells).take i).map formV))) ⟨Same.new hD, upd_same⟩ (fun i H4 _ ⟨e, _⟩ => sqT (e _ _ cp)) ?_ ?_
    · rintro i y H4 hi ⟨sm, e4⟩
      have lt := (List.getElem?_eq_some_iff.mp hi).1
      obtain ⟨c, hc, mc⟩ := Paired.get (cm.keep (TFr.same sm)) hi
      refine ⟨rfl, _, rfl, _, rfl, b, y, man, ws, es, c, rfl, bs.same sm, hm, mc, (fok.ok c (List.mem_of_getElem? hc)).le fok.hi, fun H5 s5 => ?_⟩
      refine ⟨_, s5 _ _ e4, by rw [List.length_map]; exact small1000 (Nat.le_trans (List.length_take_le _ _) (by omega)), fun b o h => by rw [upd_ne (ne_of_none h hD)]; exact s5 _ _ (sm b o h), ?_⟩
      rw [upd_same, List.take_add_one, heardAll_at hc, List.map_append]
      rfl
    · rintro H4 ⟨sm, e4⟩
      rw [List.take_of_length_le (by rw [heardAll_len]; omega)] at e4
      refine ⟨D, _, rfl, .inl ⟨SqL.of e4, fun l hl => ?_⟩⟩
      exact k l _ upd_same (sm.trans (Same.new hl))
abbrev sMade : Stmt := top 37
theorem scMade : FnScope ["book", "family"] ["book", "family"] (defScope sMade) := ⟨rfl, rfl, rfl, by decide +kernel, rfl, by decide +kernel, by decide +kernel⟩

theorem ok_made {f C CF CB : Addr} {fd : FuncData} (F : Fun K "made" "made" sMade f fd) (T : Txt mg) (HFM : Has P w K mg base "forms_made" ["book", "family"] 6 (spFormsMade CF CB)) (HLi : Has P w K mg base "limited" ["family", "forms"] 5 (spLimited CF C)) :
    FnOk P w K mg base CX0 7 f fd ["book", "family"] (spMade CF C CB) := by
  refine F.ok scMade (fun vs H Q E h => ?_) (fun cdv A outer s H vs Q E hr h => ?_)
  · obtain ⟨b, fam, man, ws, es, many, pc, cy, cells, rfl, _⟩ := h
    rfl
  · obtain ⟨b, fam, man, ws, es, many, pc, cy, cells, rfl, bs, hm, hf, cp, cm, fok, el, k⟩ := h
    refine ⟨_, (pss_one (ps_ret (pe_callH HLi (hr.mono (by decide)) rfl (pa_cons (pv 1) (pa_cons (pe_callH HFM (hr.mono (by decide)) rfl (pa_cons (pv 0) (pa_cons (pv 1) pa_nil))) pa_nil))))), ?_⟩
    have cyl : cy.length = cells.length := Paired.length cm
    have few := fok.len
    refine ⟨_, rfl, _, rfl, _, rfl, b, fam, man, ws, es, many, pc, cy, cells, rfl, bs, hm, hf, cp, cm, fok, fun l H5 e5 s5 => ?_⟩
    obtain ⟨df, hf⟩ := hf
    refine ⟨fam, l, many, pc, cy, _, rfl, ⟨df, s5 _ _ hf⟩, s5 _ _ cp, e5, forms_few (by rw [heardAll_len]; omega) (by omega) (words_ok bs.ok) (by rw [List.length_map]; exact el) fun z hz => heardAll_mem hz, fun t H6 ht s6 => ?_⟩
    exact k t l H6 ht (s6 _ _ e5) (s5.trans s6)
def spMakes (CF C CB : Addr) : Sp := fun vs H Q _ => ∃ (b t fam p : Addr) (man : Str) (ws : List Int) (es : List Ent) (many : Int) (pc : Addr) (cy : List V) (cells : List (List Int)) (fs : List (Option Str)), vs = [.ref b, .ref t] ∧ BookSt CB H b man ws es ∧ Man man ∧ TabAt C H t fam p ∧ H p = some (.tup (fs.map formV)) ∧
  FamAt CF H fam many pc ∧ H pc = some (.tup cy) ∧ Mks H cy cells ∧ FamOk many cells ∧ fs.length = cells.length ∧ ∀ H' : Hp, Same H H' → Q (.bl (agree fs (heardAll man ws es cells) cells.length)) H'
abbrev sMakes : Stmt := top 38
theorem scMakes : FnScope ["book", "table", "cell", "form"] ["book", "table"] (defScope sMakes) := ⟨rfl, rfl, rfl, by decide +kernel, rfl, by decide +kernel, by decide +kernel⟩

theorem ok_makes {f C CF CB : Addr} {fd : FuncData} (F : Fun K "makes" "makes" sMakes f fd) (T : Txt mg) (FT : FamTxt K mg CF) (TT : TabTxt K mg C) (HFA : Has P w K mg base "_form_at" ["book", "cell"] 5 (spHeard CB)) :
    FnOk P w K mg base CX0 6 f fd ["book", "table"] (spMakes CF C CB) := by
  refine F.ok scMakes (fun vs H Q E h => ?_) (fun cdv A outer s H vs Q E hr h => ?_)
  · obtain ⟨b, t, fam, p, man, ws, es, many, pc, cy, cells, fs, rfl, _⟩ := h
    rfl
  · obtain ⟨b, t, fam, p, man, ws, es, many, pc, cy, cells, fs, rfl, bs, hm, ⟨dt, ht⟩, hp, ⟨df, hf⟩, cp, cm, fok, fl, k⟩ := h
    refine ⟨_, (pss_cons (ps_for PassesOwn.never rfl (RZ.pi_zipA rfl T.zip (pa_cons (pe_fld (pe_fld (pv 1) rfl) rfl) (pa_cons (pe_fld (pv 1) rfl) pa_nil))) (pg_tup rfl (pgs_cons (pg_name (i := 2) scMakes.nd rfl (by first | exact Or.inl rfl | exact Or.inr rfl)) (pgs_cons (pg_name (i := 3) scMakes.nd rfl (by first | exact Or.inl rfl | exact Or.inr rfl)) pgs_nil))) (pss_one (ps_if (PW.pt (pw_and (pt_cmpR op_notN (pv 3) pe_non (nomark _)) (pw_and1 (pt_cmpR op_ne (pe_callH HFA (hr.mono (by decide)) rfl (pa_cons (pv 0) (pa_cons (pv 2) pa_nil))) (pv 3) (nomark _))))) (pss_one (ps_ret pe_bl)) pss_nil)))
      (pss_one (ps_ret pe_bl))), ?_⟩
    have cyl : cy.length = cells.length := Paired.length cm
    have ll : cy.length = (fs.map formV).length := by rw [List.length_map]; omega
    refine ⟨_, rfl, t, C, dt, _, _, rfl, ht, TT.cl, TT.nF, tabF_family _ _, fam, CF, df, _, _, rfl, hf, FT.cl, FT.nC, famF_cells _ _, _, rfl, t, C, dt, _, _, rfl, ht, TT.cl, TT.nO, tabF_forms _ _, pc, p, cy, _, rfl, .inr ⟨sqT cp, sqT hp, ?_⟩⟩
    refine for_it (walk_zipT (K := K) (a := pc) (b := p) ll) (fun i σ H2 => Same H H2 ∧ agree fs (heardAll man ws es cells) i = true ∧ ∃ v2 v3 : Option V, σ = [some (.ref b), some (.ref t), v2, v3]) ⟨Same.refl H, rfl, none, none, rfl⟩ (fun i σ H2 _ ⟨s2, _⟩ => ⟨sqT (s2 _ _ cp), sqT (s2 _ _ hp)⟩) ?_ ?_
    · rintro i x σ H2 H3 hi ⟨s2, ag, v2, v3, rfl⟩ ⟨T0, x1, x2, rfl, hT, rfl, hx1, hx2⟩
      obtain ⟨c, hc, mc⟩ := Paired.get cm hx1
      rw [List.getElem?_map] at hx2
      obtain ⟨form, hfm, rfl⟩ := Option.map_eq_some_iff.mp hx2
      have lt := (List.getElem?_eq_some_iff.mp hc).1
      have s3 : Same H2 (upd H2 T0 (.tup [x1, formV form])) := Same.new hT
      have et : (upd H2 T0 (.tup [x1, formV form])) T0 = some (.tup [x1, formV form]) := upd_same
      generalize upd H2 T0 (.tup [x1, formV form]) = H3 at *
      have s13 := s2.trans s3
      have fa := fits1_at hfm (heardAll_at (man := man) (ws := ws) (es := es) hc)
      refine ⟨T0, _, rfl, sqT et, rfl, _, _, rfl, _, _, rfl, rfl, ?_⟩
      refine ⟨_, rfl, rfl, _, rfl, ?_⟩
      cases form with
      | none =>
        refine ite2 (fun no => ?_) (fun _ => iteF ⟨s13, by rw [agree_next, ag, fa]; rfl, _, _, rfl⟩)
        have no' : (!decide (V.non = V.non)) = true := no
        rw [decide_eq_true rfl] at no'
        cases no'
      | some z =>
        refine ite2 (fun _ => ?_) (fun no => absurd (show (!decide (V.str z = V.non)) = true by rw [decide_eq_false (fun q : V.str z = V.non => nomatch q)] <;> rfl) no)
        refine ⟨_, rfl, _, rfl, b, x1, man, ws, es, c, rfl, bs.same s13, hm, Tup.keep (TFr.same s13) mc, (fok.ok c (List.mem_of_getElem? hc)).le fok.hi, fun H5 s5 => ?_⟩
        refine ⟨_, rfl, forms_scal _ (some z), _, rfl, ?_⟩
        have e : decide (formV (heard man ws es c) = V.str z) = fits1 fs (heardAll man ws es cells) i := by
          rw [fa]
          refine (formV_eq (heard man ws es c) (some z)).trans ?_
          by_cases q : heard man ws es c = some z
          · simp [q]
          · have q' : ¬ some z = heard man ws es c := fun h => q h.symm
            simp [q, q']
        refine ite2 (fun ne => ?_) (fun eq => ?_)
        · have ne' : (!decide (formV (heard man ws es c) = V.str z)) = true := ne
          rw [e] at ne'
          have hh : fits1 fs (heardAll man ws es cells) i = false := by simpa using ne'
          rw [agree_no hh lt] at k
          exact k H5 (s13.trans s5)
        · have eq' : ¬ (!decide (formV (heard man ws es c) = V.str z)) = true := eq
          rw [e] at eq'
          have hh : fits1 fs (heardAll man ws es cells) i = true := by simpa using eq'
          exact ⟨s13.trans s5, by rw [agree_next, ag, hh]; rfl, _, _, rfl⟩
    · rintro σ H2 ⟨s2, ag, v2, v3, rfl⟩
      rw [cyl] at ag
      rw [ag] at k
      exact k H2 s2
end
end Xci

namespace Xci
open PySem L2
section
variable {P : Program} {w : World} {K : PySem.W.Frag} {mg : Str → Option Value} {base : Heap}
def flatL : V → Bool
  | .int _ => true
  | .str _ => true
  | .bl _ => true
  | .non => true
  | _ => false
def spLikeA : Sp := fun vs H Q _ => ∃ x : V, vs = [x, x] ∧ flatL x = true ∧ ∀ H', Same H H' → Q (.bl true) H'
def spLikeB : Sp := fun vs H Q _ => ∃ (u v : V) (xs : List V), vs = [u, v] ∧ Tup H u xs ∧ Tup H v xs ∧ xs.all flatL = true ∧ xs.length ≤ 1000 ∧ ∀ H', Same H H' → Q (.bl true) H'
abbrev sLawLike : Stmt := top 63
theorem scLawLike : FnScope ["told", "due", "at"] ["told", "due"] (defScope sLawLike) := ⟨rfl, rfl, rfl, by decide +kernel, rfl, by decide +kernel, by decide +kernel⟩

theorem ok_likeA {f : Addr} {fd : FuncData} (F : Fun K "_law_like" "_law_like" sLawLike f fd) (T : Txt mg) : FnOk P w K mg base CX0 1 f fd ["told", "due"] spLikeA := by
  refine F.ok scLawLike (fun vs H Q E h => ?_) (fun cdv A outer s H vs Q E hr h => ?_)
  · obtain ⟨x, rfl, _⟩ := h
    rfl
  · obtain ⟨x, rfl, hf, k⟩ := h
    refine ⟨_, (pss_cons (ps_if (pt_val (pe_callB call_isiT rfl T.isinstance (by decide +kernel) (pa_cons (pv 1) (pa_cons (pe_tup (pa_cons (pe_bltn rfl T.tuple (by decide +kernel) (v := V.ty "tuple") rfl) (pa_cons (pe_bltn rfl T.list (by decide +kernel) (v := V.ty "list") rfl) pa_nil))) pa_nil)))) pss_never pss_nil)
      (pss_one (ps_ret (pe_and (pe_cmpR op_eq (pe_callB call_isi rfl T.isinstance (by decide +kernel) (pa_cons (pv 0) (pa_cons (pe_bltn rfl T.bool (by decide +kernel) (v := V.ty "bool") rfl) pa_nil))) (pe_callB call_isi rfl T.isinstance (by decide +kernel) (pa_cons (pv 1) (pa_cons (pe_bltn rfl T.bool (by decide +kernel) (v := V.ty "bool") rfl) pa_nil))) (nomark _)) (pe_one (pe_cmpR op_eq (pv 0) (pv 1) (nomark _))))))), ?_⟩
    refine ⟨_, rfl, (by show 2 ≤ sizeLine; decide), fun t ht => ?_⟩
    have et : (upd H t (.tup [.ty "tuple", .ty "list"])) t = some (.tup [.ty "tuple", .ty "list"]) := upd_same
    have s1 : Same H (upd H t (.tup [.ty "tuple", .ty "list"])) := Same.new ht
    cases x with
    | int i =>
      refine ⟨_, t, _, _, [.type "tuple", .type "list"], false, rfl, et, .cons (.ty _) (.cons (.ty _) .nil), .base (.int _), isi_tl (by decide +kernel) (by decide +kernel), _, rfl, ?_⟩
      refine iteF ?_
      refine ⟨_, rfl, _, _, _, _, false, rfl, .ty _, .base (.int _), kit_ty (by decide +kernel), _, rfl, _, _, _, _, false, rfl, .ty _, .base (.int _), kit_ty (by decide +kernel), rfl, _, rfl, ?_⟩
      refine ⟨_, rfl, _, rfl, rfl, ?_⟩
      have e : decide (V.int i = V.int i) = true := decide_eq_true rfl
      rw [e]
      exact k _ s1
    | str i =>
      refine ⟨_, t, _, _, [.type "tuple", .type "list"], false, rfl, et, .cons (.ty _) (.cons (.ty _) .nil), .base (.str _), isi_tl (by decide +kernel) (by decide +kernel), _, rfl, ?_⟩
      refine iteF ?_
      refine ⟨_, rfl, _, _, _, _, false, rfl, .ty _, .base (.str _), kit_ty (by decide +kernel), _, rfl, _, _, _, _, false, rfl, .ty _, .base (.str _), kit_ty (by decide +kernel), rfl, _, rfl, ?_⟩
      refine ⟨_, rfl, _, rfl, rfl, ?_⟩
      have e : decide (V.str i = V.str i) = true := decide_eq_true rfl
      rw [e]
      exact k _ s1
    | non =>
      refine ⟨_, t, _, _, [.type "tuple", .type "list"], false, rfl, et, .cons (.ty _) (.cons (.ty _) .nil), .base .non, isi_tl (by decide +kernel) (by decide +kernel), _, rfl, ?_⟩
      refine iteF ?_
      refine ⟨_, rfl, _, _, _, _, false, rfl, .ty _, .base .non, kit_ty (by decide +kernel), _, rfl, _, _, _, _, false, rfl, .ty _, .base .non, kit_ty (by decide +kernel), rfl, _, rfl, ?_⟩
      refine ⟨_, rfl, _, rfl, rfl, ?_⟩
      have e : decide (V.non = V.non) = true := decide_eq_true rfl
      rw [e]
      exact k _ s1
    | bl i =>
      refine ⟨_, t, _, _, [.type "tuple", .type "list"], false, rfl, et, .cons (.ty _) (.cons (.ty _) .nil), .base (.bl i), isi_tl (by decide +kernel) (by decide +kernel), _, rfl, ?_⟩
      refine iteF ?_
      refine ⟨_, rfl, _, _, _, _, true, rfl, .ty _, .base (.bl i), kit_ty (by decide +kernel), _, rfl, _, _, _, _, true, rfl, .ty _, .base (.bl i), kit_ty (by decide +kernel), rfl, _, rfl, ?_⟩
      refine ⟨_, rfl, _, rfl, rfl, ?_⟩
      have e : decide (V.bl i = V.bl i) = true := decide_eq_true rfl
      rw [e]
      exact k _ s1
    | byt _ => cases hf
    | flt _ => cases hf
    | ref _ => cases hf
    | ty _ => cases hf
theorem ok_likeB {f : Addr} {fd : FuncData} (F : Fun K "_law_like" "_law_like" sLawLike f fd) (T : Txt mg) (HL : Has P w K mg base "_law_like" ["told", "due"] 1 spLikeA) : FnOk P w K mg base CX0 2 f fd ["told", "due"] spLikeB := by
  refine F.ok scLawLike (fun vs H Q E h => ?_) (fun cdv A outer s H vs Q E hr h => ?_)
  · obtain ⟨u, v, xs, rfl, _⟩ := h
    rfl
  · obtain ⟨u, v, xs, rfl, ⟨p, rfl, hp⟩, ⟨q, rfl, hq⟩, hf, hl, k⟩ := h
    refine ⟨_, (pss_cons (ps_if (pt_val (pe_callB call_isiT rfl T.isinstance (by decide +kernel) (pa_cons (pv 1) (pa_cons (pe_tup (pa_cons (pe_bltn rfl T.tuple (by decide +kernel) (v := V.ty "tuple") rfl) (pa_cons (pe_bltn rfl T.list (by decide +kernel) (v := V.ty "list") rfl) pa_nil))) pa_nil)))) (pss_cons (ps_if (PW.pt (pw_or (pt_cmpR op_ne (pe_callB call_isi rfl T.isinstance (by decide +kernel) (pa_cons (pv 0) (pa_cons (pe_bltn rfl T.tuple (by decide +kernel) (v := V.ty "tuple") rfl) pa_nil))) (pe_callB call_isi rfl T.isinstance (by decide +kernel) (pa_cons (pv 1) (pa_cons (pe_bltn rfl T.tuple (by decide +kernel) (v := V.ty "tuple") rfl) pa_nil))) (nomark _)) (pw_or1 (pt_cmpR op_ne (pe_callB call_isi rfl T.isinstance (by decide +kernel) (pa_cons (pv 0) (pa_cons (pe_bltn rfl T.list (by decide +kernel) (v := V.ty "list") rfl) pa_nil))) (pe_callB call_isi rfl T.isinstance (by decide +kernel) (pa_cons (pv 1) (pa_cons (pe_bltn rfl T.list (by decide +kernel) (v := V.ty "list") rfl) pa_nil))) (nomark _))))) (pss_one (ps_ret pe_bl)) pss_nil)
      (pss_one (ps_ret (pe_and (pe_cmpR op_eq (pe_callB call_len rfl T.len PySem.boot_len (pa_cons (pv 0) pa_nil)) (pe_callB call_len rfl T.len PySem.boot_len (pa_cons (pv 1) pa_nil)) (nomark _)) (pe_one (pe_callB (cr_all rfl) rfl T.all (by decide +kernel) (pa_cons (pe_lc (own := [("at", 2)]) rfl scLawLike.nd (pi_range1 rfl T.range (pa_cons (pe_callB call_len rfl T.len PySem.boot_len (pa_cons (pv 1) pa_nil)) pa_nil)) (blkOk_by (N := ["told", "due", "at"]) (sc := defScope sLawLike) (by decide +kernel)) (fun _ _ _ _ _ => (pg_name (i := 2) scLawLike.nd rfl (by first | exact Or.inl rfl | exact Or.inr rfl))) (fun _ _ _ _ _ => pts_nil) (fun _ _ _ _ _ => (pe_callH HL (hr.mono (by decide)) rfl (pa_cons (pe_ix (show IxR _ (rIxT K) from ix_tup) (pv 0) (pv 2) (fun _ _ => rfl)) (pa_cons (pe_ix (show IxR _ (rIxT K) from ix_tup) (pv 1) (pv 2) (fun _ _ => rfl)) pa_nil))))) pa_nil))))))) pss_nil)
      pss_never), ?_⟩
    refine ⟨_, rfl, (by show 2 ≤ sizeLine; decide), fun t ht => ?_⟩
    have et : (upd H t (.tup [.ty "tuple", .ty "list"])) t = some (.tup [.ty "tuple", .ty "list"]) := upd_same
    have s1 : Same H (upd H t (.tup [.ty "tuple", .ty "list"])) := Same.new ht
    generalize upd H t (.tup [.ty "tuple", .ty "list"]) = H1 at *
    have hp1 := s1 _ _ hp
    have hq1 := s1 _ _ hq
    refine ⟨_, t, _, _, [.type "tuple", .type "list"], true, rfl, et, .cons (.ty _) (.cons (.ty _) .nil), .base (.tup hq1), isi_tup, _, rfl, ?_⟩
    refine iteT ?_
    refine ⟨_, rfl, _, _, _, _, true, rfl, .ty _, .base (.tup hp1), kit_ty (by decide +kernel), _, rfl, _, _, _, _, true, rfl, .ty _, .base (.tup hq1), kit_ty (by decide +kernel), rfl, _, rfl, ?_⟩
    refine iteF ?_
    refine ⟨_, rfl, _, _, _, _, false, rfl, .ty _, .base (.tup hp1), kit_ty (by decide +kernel), _, rfl, _, _, _, _, false, rfl, .ty _, .base (.tup hq1), kit_ty (by decide +kernel), rfl, _, rfl, ?_⟩
    refine iteF ?_
    refine ⟨_, rfl, _, xs.length, rfl, .inr ⟨_, sqT hp1, rfl⟩, _, rfl, _, xs.length, rfl, .inr ⟨_, sqT hq1, rfl⟩, rfl, _, rfl, ?_⟩
    refine ite2 (fun _ => ?_) (fun h => absurd (decide_eq_true rfl) h)
    refine ⟨_, rfl, _, xs.length, rfl, .inr ⟨_, sqT hq1, rfl⟩, _, rfl, by omega, by omega, fun D hD => ?_⟩
    refine lc_range (n := ((xs.length : Nat) : Int).toNat) (fun i H4 => Same H1 H4 ∧ ∃ bs : List Bool, H4 D = some (.lst (bs.map V.bl)) ∧ bs.all id = true ∧ bs.length ≤ i) ⟨Same.new hD, [], upd_same, rfl, Nat.le_refl _⟩ ?_ ?_
    · rintro i H4 hi ⟨sm, bs, e4, hb, hbl⟩
      have hi' : i < xs.length := by omega
      have hx : xs[i]? = some xs[i] := List.getElem?_eq_getElem hi'
      have hfx := List.all_eq_true.mp hf _ (List.getElem_mem hi')
      refine ⟨rfl, _, rfl, _, rfl, p, _, _, _, rfl, rfl, sqT (sm _ _ hp1), at_of (j := i) (by omega) hx, _, rfl, _, rfl, q, _, _, _, rfl, rfl, sqT (sm _ _ hq1), at_of (j := i) (by omega) hx, _, rfl, hfx, fun H5 s5 => ?_⟩
      refine ⟨_, s5 _ _ e4, by rw [List.length_map]; exact small1000 (by omega), fun b o h => by rw [upd_ne (ne_of_none h hD)]; exact s5 _ _ (sm _ _ h), bs ++ [true], by rw [upd_same, List.map_append]; rfl, ?_, by rw [List.length_append]; exact Nat.succ_le_succ hbl⟩
      rw [List.all_append, hb]
      rfl
    · rintro H4 ⟨sm, bs, e4, hb, hbl⟩
      refine ⟨D, bs, rfl, SqL.of e4, ?_⟩
      rw [hb]
      exact k _ (s1.trans sm)
def spWeights : Sp := fun vs H Q _ => ∃ a ld : Addr, vs = [.ref a] ∧ Deck H a ld ∧ ∀ (v : V) (ws : List Int) (H' : Hp), Xci.Mk H' v ws → ws.length = 6 → (∀ x ∈ ws, 0 ≤ x ∧ x ≤ 1000000) → Deck H' a ld → Fr a H H' → Q v H'
abbrev sLawWeights : Stmt := top 57
theorem scLawWeights : FnScope ["deck", "most", "mark"] ["deck"] (defScope sLawWeights) := ⟨rfl, rfl, rfl, by decide +kernel, rfl, by decide +kernel, by decide +kernel⟩

theorem ok_weightsL {f : Addr} {fd : FuncData} (F : Fun K "_law_weights" "_law_weights" sLawWeights f fd) (T : Txt mg) (HT : Has P w K mg base "_law_take" ["deck", "many"] 1 spTake) : FnOk P w K mg base CX0 2 f fd ["deck"] spWeights := by
  refine F.ok scLawWeights (fun vs H Q E h => ?_) (fun cdv A outer s H vs Q E hr h => ?_)
  · obtain ⟨a, ld, rfl, _⟩ := h
    rfl
  · obtain ⟨a, ld, rfl, hd, k⟩ := h
    refine ⟨_, (C8.pss_cut (ps_set (i := 1) scLawWeights.nd rfl (by first | exact Or.inl rfl | exact Or.inr rfl) (pe_ix ix_tup (pe_tup (pa_cons pe_int (pa_cons pe_int (pa_cons pe_int pa_nil)))) (pe_callH HT (hr.mono (by decide)) rfl (pa_cons (pv 0) (pa_cons pe_int pa_nil))) (fun _ _ => rfl)))
      (pss_one (ps_ret (pe_callTy call_tuple_of rfl T.tuple (by decide +kernel) (pa_cons (pe_lc (own := [("mark", 2)]) rfl scLawWeights.nd (pi_range1 rfl T.range (pa_cons pe_int pa_nil)) (blkOk_by (N := ["deck", "most", "mark"]) (sc := defScope sLawWeights) (by decide +kernel)) (fun _ _ _ _ _ => (pg_name (i := 2) scLawWeights.nd rfl (by first | exact Or.inl rfl | exact Or.inr rfl))) (fun _ _ _ _ _ => pts_nil) (fun _ _ _ _ _ => (pe_callH HT (hr.mono (by decide)) rfl (pa_cons (pv 0) (pa_cons (pv 1) pa_nil))))) pa_nil))))), ?_⟩
    refine ⟨fun σ' H2 => ∃ most : Int, 0 < most ∧ most ≤ 1000001 ∧ σ' = [some (.ref a), some (.int most), none] ∧ Deck H2 a ld ∧ Fr a H H2, ?_, ?_⟩
    · refine ⟨(by show 3 ≤ sizeLine; decide), fun t ht => ?_⟩
      have et : (upd H t (.tup [.int 3, .int 10, .int 1000001])) t = some (.tup [.int 3, .int 10, .int 1000001]) := upd_same
      have s1 : Same H (upd H t (.tup [.int 3, .int 10, .int 1000001])) := Same.new ht
      generalize upd H t (.tup [.int 3, .int 10, .int 1000001]) = H1 at *
      have hd1 := hd.keep s1
      refine ⟨_, rfl, a, ld, _, rfl, hd1, by decide, by decide, fun d H2 d0 d1 hd2 f2 _ => ?_⟩
      have et2 := hd1.tfr f2 _ _ et
      have ch : ∃ (j : Nat) (n : Int), d = (j : Int) ∧ ([.int 3, .int 10, .int 1000001] : List V)[j]? = some (.int n) ∧ 0 < n ∧ n ≤ 1000001 := by
        have : d = 0 ∨ d = 1 ∨ d = 2 := by omega
        rcases this with e | e | e
        · exact ⟨0, 3, e, rfl, by decide, by decide⟩
        · exact ⟨1, 10, e, rfl, by decide, by decide⟩
        · exact ⟨2, 1000001, e, rfl, by decide, by decide⟩
      obtain ⟨j, n, ej, en, n0, n1⟩ := ch
      refine ⟨t, _, _, _, rfl, rfl, sqT et2, at_of ej en, ?_⟩
      exact ⟨n, n0, n1, rfl, hd2, (Fr.same s1).trans f2⟩
    rintro σ' H2 ⟨most, m0, m1, rfl, hd2, f2⟩
    refine ⟨_, rfl, by decide, by decide, fun D hD => ?_⟩
    have hD0 := hd2.free f2 hD
    have nD := hd.ne hD0
    have mD := hd.ne' hD0
    refine lc_range (n := 6) (fun i H4 => ∃ ws : List Int, Deck H4 a ld ∧ Fr a H H4 ∧ H4 D = some (.lst (ws.map V.int)) ∧ ws.length = i ∧ ∀ x ∈ ws, 0 ≤ x ∧ x ≤ 1000000) ⟨[], hd2.keep (Same.new hD), f2.trans (Fr.new hD), upd_same, rfl, by simp⟩ ?_ ?_
    · rintro i H4 hi ⟨ws, hd4, f4, e4, hl, hb⟩
      refine ⟨rfl, _, rfl, _, rfl, a, ld, _, rfl, hd4, m0, by omega, fun d H5 d0 d1 hd5 f5 _ => ?_⟩
      refine ⟨_, f5 _ _ e4 nD, by rw [List.length_map]; exact small1000 (by omega), ws ++ [d], hd5.put nD mD, fun b o h n => by rw [upd_ne (ne_of_none h hD0)]; exact f5 _ _ (f4 _ _ h n) n, by rw [upd_same, List.map_append]; rfl, by rw [List.length_append, hl]; rfl, fun x hx => ?_⟩
      rcases List.mem_append.mp hx with q | q
      · exact hb x q
      · rw [List.mem_singleton.mp q]; omega
    · rintro H4 ⟨ws, hd4, f4, e4, hl, hb⟩
      exact ⟨_, _, rfl, .inl ⟨SqL.of e4, fun l hl' => k _ ws _ ⟨l, rfl, upd_same⟩ hl hb (hd4.keep (Same.new hl')) (f4.trans (Fr.new hl'))⟩⟩
theorem ok_speaksRow {f : Addr} {fd : FuncData} (F : Fun K "_law_speaks" "_law_speaks" sLawSpeaks f fd) (T : Txt mg) (HF : Has P w K mg base "_law_fits" ["entries", "cell"] 2 (spFits K)) : FnOk P w K mg base CX0 3 f fd ["manner", "entries", "weights", "cell"] (spSpeaksRow K) := by
  refine F.ok scLawSpeaks (fun vs H Q E h => ?_) (fun cdv A outer s H vs Q E hr h => ?_)
  · obtain ⟨p, v, ys, es, ms, rfl, _⟩ := h
    rfl
  · obtain ⟨p, v, ys, es, ms, rfl, hp, ents, eok, el, mv, k⟩ := h
    refine ⟨_, (pss_cons (ps_set (i := 4) scLawSpeaks.nd rfl (by first | exact Or.inl rfl | exact Or.inr rfl) (pe_callH HF (hr.mono (by decide)) rfl (pa_cons (pv 1) (pa_cons (pv 3) pa_nil))))
      (pss_cons (ps_if (pt_cmpR op_eq (pe_callB call_len rfl T.len PySem.boot_len (pa_cons (pv 4) pa_nil)) pe_int (nomark _)) (pss_one (ps_ret (pe_tup (pa_cons pe_str pa_nil)))) pss_nil)
      (pss_cons (ps_if (pt_cmpR op_eq (pv 0) pe_str (nomark _)) (pss_one (ps_ret (pe_tup (pa_cons pe_str (pa_cons (pe_ix ix_list (pv 4) pe_int (fun _ _ => rfl)) pa_nil))))) pss_nil)
      pss_never))), ?_⟩
    refine ⟨_, rfl, _, rfl, p, v, ys, es, ms, rfl, hp, ents, eok, el, mv, fun q H1 hq s1 => ?_⟩
    refine ⟨_, rfl, _, _, rfl, .inl ⟨_, SqL.of hq, rfl⟩, rfl, _, rfl, ?_⟩
    cases hjs : fitN es ms with
    | nil =>
      rw [hjs] at hq k
      refine iteT ⟨(by show 1 ≤ sizeLine; decide), fun t ht => ?_⟩
      exact k _ _ ⟨t, rfl, upd_same⟩ (s1.trans (Same.new ht))
    | cons j r =>
      rw [hjs] at hq k
      refine ite2 (fun hf => ?_) (fun _ => ?_)
      · have hf' : V.int ((((nat2 (j :: r)).map V.int).length : Nat) : Int) = V.int 0 := of_decide_eq_true hf
        have := V.int.inj hf'
        simp [nat2] at this
        omega
      refine ⟨_, rfl, rfl, _, rfl, ?_⟩
      refine ite2 (fun _ => ?_) (fun hf => absurd (decide_eq_true rfl) hf)
      refine ⟨_, rfl, q, _, _, _, rfl, rfl, SqL.of hq, at_of (j := 0) rfl rfl, (by show 2 ≤ sizeLine; decide), fun t ht => ?_⟩
      exact k _ _ ⟨t, rfl, upd_same⟩ (s1.trans (Same.new ht))
/-- what is told of who speaks -/
def Told (H : Hp) (u : V) : Option Nat → Prop
  | some j => Tup H u [.str "entry", .int (j : Int)]
  | none => ∃ (x : Str) (r : List V), Tup H u (.str x :: r) ∧ x ≠ "entry"
def spLawWho (K : PySem.W.Frag) : Sp := fun vs H Q _ => ∃ (man : Str) (p : Addr) (wt v : V) (ys : List V) (ws : List Int) (es : List Ent) (ms : List Int), vs = [.str man, .ref p, wt, v] ∧ Man man ∧ WtIs H man wt ws ∧ H p = some (.tup ys) ∧ Ents H ys es ∧ (∀ e ∈ es, EntOk e) ∧ es.length ≤ 1000 ∧ Xci.Mk H v ms ∧
  ∀ (u : V) (H' : Hp), Told H' u (whoN man ws es ms) → Same H H' → Q u H'
theorem told_row {H : Hp} {u : V} {ws : List Int} {es : List Ent} {ms : List Int} (h : Tup H u (spk (fitN es ms))) : Told H u (whoN "row" ws es ms) := by
  unfold whoN
  rw [if_pos rfl]
  cases e : fitN es ms with
  | nil =>
    rw [e] at h
    exact ⟨"none", [], h, by decide +kernel⟩
  | cons j r =>
    rw [e] at h
    exact h
theorem told_res {H : Hp} {u : V} {man : Str} {ws : List Int} {es : List Ent} {ms : List Int} (n : man ≠ "row") (h : ResAt H u (lawRes (fitN es ms) (beatA man ws es))) : Told H u (whoN man ws es ms) := by
  unfold whoN
  rw [if_neg n]
  cases e : lawRes (fitN es ms) (beatA man ws es) with
  | none =>
    rw [e] at h
    exact ⟨"none", [], h, by decide +kernel⟩
  | ent j =>
    rw [e] at h
    exact h
  | qua l =>
    rw [e] at h
    obtain ⟨t, ht, _⟩ := h
    exact ⟨"quarrel", [.ref t], ht, by decide +kernel⟩
theorem ok_lawWho {f : Addr} {fd : FuncData} (g : FnOk P w K mg base CX0 4 f fd ["manner", "entries", "weights", "cell"] (spSpeaks K)) (g' : FnOk P w K mg base CX0 3 f fd ["manner", "entries", "weights", "cell"] (spSpeaksRow K)) : FnOk P w K mg base CX0 4 f fd ["manner", "entries", "weights", "cell"] (spLawWho K) :=
  ok_imp (ok_both g (g'.mono (by decide))) fun vs H Q E ⟨man, p, wt, v, ys, ws, es, ms, e, hm, hw, hp, ents, eok, el, mv, k⟩ => by
    subst e
    rcases n_row3 hm with rfl | ⟨hn, h3⟩
    · rcases hw with ⟨_, rfl⟩ | ⟨h, _⟩
      · exact .inr ⟨p, v, ys, es, ms, rfl, hp, ents, eok, el, mv, fun u H' hu s => k u H' (told_row hu) s⟩
      · exact absurd h n_roww
    · exact .inl ⟨man, p, wt, v, ys, ws, es, ms, rfl, h3, hw, hp, ents, eok, el, mv, fun u H' hu s => k u H' (told_res hn hu) s⟩
def spLawHeard (K : PySem.W.Frag) : Sp := fun vs H Q _ => ∃ (man : Str) (p : Addr) (wt v : V) (ys : List V) (ws : List Int) (es : List Ent) (ms : List Int), vs = [.str man, .ref p, wt, v] ∧ Man man ∧ WtIs H man wt ws ∧ H p = some (.tup ys) ∧ Ents H ys es ∧ (∀ e ∈ es, EntOk e) ∧ es.length ≤ 1000 ∧ Xci.Mk H v ms ∧
  ∀ (H' : Hp), Same H H' → Q (formV (heard man ws es ms)) H'
abbrev sLawFormAt : Stmt := top 62
theorem scLawFormAt : FnScope ["manner", "entries", "weights", "cell", "told"] ["manner", "entries", "weights", "cell"] (defScope sLawFormAt) := ⟨rfl, rfl, rfl, by decide +kernel, rfl, by decide +kernel, by decide +kernel⟩

theorem ok_lawFormAt {f : Addr} {fd : FuncData} (F : Fun K "_law_form_at" "_law_form_at" sLawFormAt f fd) (HLS : Has P w K mg base "_law_speaks" ["manner", "entries", "weights", "cell"] 4 (spLawWho K)) : FnOk P w K mg base CX0 5 f fd ["manner", "entries", "weights", "cell"] (spLawHeard K) := by
  refine F.ok scLawFormAt (fun vs H Q E h => ?_) (fun cdv A outer s H vs Q E hr h => ?_)
  · obtain ⟨man, p, wt, v, ys, ws, es, ms, rfl, _⟩ := h
    rfl
  · obtain ⟨man, p, wt, v, ys, ws, es, ms, rfl, hm, hw, hp, ents, eok, el, mv, k⟩ := h
    refine ⟨_, (pss_cons (ps_set (i := 4) scLawFormAt.nd rfl (by first | exact Or.inl rfl | exact Or.inr rfl) (pe_callH HLS (hr.mono (by decide)) rfl (pa_cons (pv 0) (pa_cons (pv 1) (pa_cons (pv 2) (pa_cons (pv 3) pa_nil))))))
      (pss_cons (ps_if (pt_cmpR op_eq (pe_ix ix_tup (pv 4) pe_int (fun _ _ => rfl)) pe_str (nomark _)) (pss_one (ps_ret (pe_ix ix_tup (pe_ix ix_tup (pv 1) (pe_ix ix_tup (pv 4) pe_int (fun _ _ => rfl)) (fun _ _ => rfl)) pe_int (fun _ _ => rfl)))) pss_nil)
      (pss_one (ps_ret pe_non)))), ?_⟩
    refine ⟨_, rfl, _, rfl, _, rfl, _, rfl, man, p, wt, v, ys, ws, es, ms, rfl, hm, hw, hp, ents, eok, el, mv, fun u H1 hu s1 => ?_⟩
    have k1 := k H1 s1
    cases hh : whoN man ws es ms with
    | none =>
      rw [hh] at hu
      rw [heard_non hh] at k1
      obtain ⟨x, r, ⟨a, rfl, ha⟩, nx⟩ := hu
      refine ⟨_, rfl, a, _, _, _, rfl, rfl, sqT ha, at_of (j := 0) rfl rfl, rfl, _, rfl, ?_⟩
      refine ite2 (fun hf => absurd (V.str.inj (of_decide_eq_true hf)) nx) (fun _ => ?_)
      exact k1
    | some j =>
      rw [hh] at hu
      obtain ⟨a, rfl, ha⟩ := hu
      obtain ⟨r, u, e, hy, hr0, mu, he⟩ := ent_at (Ents.keep (TFr.same s1) ents) (who_lt hh)
      rw [heard_at hh he] at k1
      refine ⟨_, rfl, a, _, _, _, rfl, rfl, sqT ha, at_of (j := 0) rfl rfl, rfl, _, rfl, ?_⟩
      refine ite2 (fun _ => ?_) (fun hf => absurd (decide_eq_true rfl) hf)
      exact ⟨_, rfl, _, rfl, a, _, _, _, rfl, rfl, sqT ha, at_of (j := 1) rfl rfl, p, _, _, _, rfl, rfl, sqT (s1 _ _ hp), at_of (j := j) rfl hy, r, _, _, _, rfl, rfl, sqT hr0, at_of (j := 1) rfl rfl, k1⟩
end
end Xci

namespace Xci
open PySem L2
section
variable {P : Program} {w : World} {K : PySem.W.Frag} {mg : Str → Option Value} {base : Heap}
abbrev sLaw : Stmt := top 64
theorem scLaw : FnScope ["script", "deck", "turn", "many", "cells", "family", "manner", "words", "entries", "weights", "book", "due", "cell", "told", "less", "form", "at", "word", "other", "forms", "flag", "spot"] ["script"] (defScope sLaw) := ⟨rfl, rfl, rfl, by decide +kernel, rfl, by decide +kernel, by decide +kernel⟩

def spLaw (K : PySem.W.Frag) : Sp := fun vs H Q _ => ∃ (a : Addr) (ns : List Int), vs = [.ref a] ∧ SqL K H a (ns.map V.int) ∧ ns.length ≤ 63 ∧ ∀ H', Q (.bl true) H'
/-- what stands in one turn -/
structure Set15 (CF CB fm pc bk dq qw : Addr) (many : Int) (cy : List V) (cells : List (List Int)) (man : Str) (ws : List Int) (es : List Ent) (zs : List Str) (H : Hp) : Prop where
  fa : FamAt CF H fm many pc
  cp : H pc = some (.tup cy)
  cm : Mks H cy cells
  bo : BookSt CB H bk man ws es
  du : H dq = some (.tup ((heardAll man ws es cells).map formV))
  wq : H qw = some (.lst (zs.map V.str))
theorem BookSt.fr {C a ld : Addr} {H H' : Hp} {b : Addr} {man : Str} {ws : List Int} {es : List Ent} (h : BookSt C H b man ws es) (d : Deck H a ld) (f : Fr a H H') : BookSt C H' b man ws es := by
  obtain ⟨⟨p, wt, ys, ⟨dx, a1⟩, a2, a3, a4⟩, b1, b2⟩ := h
  obtain ⟨zs, hz⟩ := d.is
  have t := d.tfr f
  exact ⟨⟨p, wt, ys, ⟨dx, f _ _ a1 (ne_of a1 hz (by intro z; cases z))⟩, t _ _ a2, Ents.keep t a3, a4.keep t⟩, b1, b2⟩
theorem FamAt.fr {C a ld : Addr} {H H' : Hp} {b p : Addr} {many : Int} (h : FamAt C H b many p) (d : Deck H a ld) (f : Fr a H H') : FamAt C H' b many p := by
  obtain ⟨dx, a1⟩ := h
  obtain ⟨zs, hz⟩ := d.is
  exact ⟨dx, f _ _ a1 (ne_of a1 hz (by intro z; cases z))⟩
theorem TabAt.fr {C a ld : Addr} {H H' : Hp} {b fam p : Addr} (h : TabAt C H b fam p) (d : Deck H a ld) (f : Fr a H H') : TabAt C H' b fam p := by
  obtain ⟨dx, a1⟩ := h
  obtain ⟨zs, hz⟩ := d.is
  exact ⟨dx, f _ _ a1 (ne_of a1 hz (by intro z; cases z))⟩
section
variable {CF CB fm pc bk dq qw : Addr} {many : Int} {cy : List V} {cells : List (List Int)} {man : Str} {ws : List Int} {es : List Ent} {zs : List Str} {H H' : Hp}
theorem Set15.same (h : Set15 CF CB fm pc bk dq qw many cy cells man ws es zs H) (s : Same H H') : Set15 CF CB fm pc bk dq qw many cy cells man ws es zs H' := by
  obtain ⟨dx, hf⟩ := h.fa
  exact ⟨⟨dx, s _ _ hf⟩, s _ _ h.cp, h.cm.keep (TFr.same s), h.bo.same s, s _ _ h.du, s _ _ h.wq⟩
theorem Set15.fr {a ld : Addr} (h : Set15 CF CB fm pc bk dq qw many cy cells man ws es zs H) (d : Deck H a ld) (f : Fr a H H') (n : qw ≠ a) : Set15 CF CB fm pc bk dq qw many cy cells man ws es zs H' := by
  have t := d.tfr f
  exact ⟨h.fa.fr d f, t _ _ h.cp, h.cm.keep t, h.bo.fr d f, t _ _ h.du, f _ _ h.wq n⟩
end
theorem man_four {d : Int} (h0 : 0 ≤ d) (h1 : d < 4) : ∃ (j : Nat) (man : Str), d = (j : Int) ∧ ([.str "row", .str "within", .str "weights", .str "most"] : List V)[j]? = some (.str man) ∧ Man man := by
  have : d = 0 ∨ d = 1 ∨ d = 2 ∨ d = 3 := by omega
  rcases this with e | e | e | e
  · exact ⟨0, "row", e, rfl, .inl rfl⟩
  · exact ⟨1, "within", e, rfl, .inr (.inl rfl)⟩
  · exact ⟨2, "weights", e, rfl, .inr (.inr (.inl rfl))⟩
  · exact ⟨3, "most", e, rfl, .inr (.inr (.inr rfl))⟩
theorem z8_ok : WordOk "zzzzzzzz" := ⟨by decide +kernel, by decide +kernel, fun c hc => by
  have h : (("zzzzzzzz" : Str).cps.toList.all fun c => decide (97 ≤ c ∧ c ≤ 122)) = true := by decide +kernel
  exact of_decide_eq_true (List.all_eq_true.mp h c hc)⟩
theorem flat_forms (fs : List (Option Str)) : (fs.map formV).all flatL = true := by
  rw [List.all_map, List.all_eq_true]
  intro f _
  cases f <;> rfl
set_option maxHeartbeats 1000000 in
theorem ok_law {f C CF CB : Addr} {fd : FuncData} (F : Fun K "law" "law" sLaw f fd) (T : Txt mg) (TT : TabTxt K mg C) (CT : ClsTy K C) (HD : Has P w K mg base "_law_deck" ["script"] 1 (spDeck K)) (HT : Has P w K mg base "_law_take" ["deck", "many"] 1 spTake)
    (HFa : Has P w K mg base "_law_family" ["deck"] 3 spFamily) (HWs : Has P w K mg base "_law_words" ["deck", "most"] 3 spWords) (HEn : Has P w K mg base "_law_entries" ["deck", "cells", "words", "most"] 3 (spEntries K)) (HWt : Has P w K mg base "_law_weights" ["deck"] 2 spWeights)
    (HFo : Has P w K mg base "_law_forms" ["deck", "cells", "words"] 2 spForms) (HLF : Has P w K mg base "_law_form_at" ["manner", "entries", "weights", "cell"] 5 (spLawHeard K)) (HLk : Has P w K mg base "_law_like" ["told", "due"] 2 (fun vs H Q E => spLikeA vs H Q E ∨ spLikeB vs H Q E))
    (HMa : Has P w K mg base "made" ["book", "family"] 7 (spMade CF C CB)) (HMs : Has P w K mg base "makes" ["book", "table"] 6 (spMakes CF C CB)) (HEq : HasE P w K mg base CF 1 (FamSame CF))
    (HFm : HasC P w K mg base "Family" CF ["self", "many", "cells"] 5 (spFam CF)) (HTb : HasC P w K mg base "Table" C ["self", "family", "forms"] 3 (spTab CF C)) (HBk : HasC P w K mg base "Book" CB ["self", "manner", "entries", "weights"] 6 (spBook CB)) :
    FnOk P w K mg base CX0 8 f fd ["script"] (spLaw K) := by
  refine F.ok scLaw (fun vs H Q E h => ?_) (fun cdv A outer s H vs Q E hr h => ?_)
  · obtain ⟨a, ns, rfl, _⟩ := h
    rfl
  · obtain ⟨sa, ns, rfl, hS, hlen, k⟩ := h
    refine ⟨_, (C8.pss_cut (ps_set (i := 1) scLaw.nd rfl (by first | exact Or.inl rfl | exact Or.inr rfl) (pe_callH HD (hr.mono (by decide)) rfl (pa_cons (pv 0) pa_nil)))
      (C8.pss_cut (ps_for PassesOwn.never rfl (pi_range1 rfl T.range (pa_cons pe_int pa_nil)) (pg_name (i := 2) scLaw.nd rfl (by first | exact Or.inl rfl | exact Or.inr rfl)) (C8.pss_cut (ps_asg (pe_callH HFa (hr.mono (by decide)) rfl (pa_cons (pv 1) pa_nil)) (pg_tup rfl (pgs_cons (pg_name (i := 3) scLaw.nd rfl (by first | exact Or.inl rfl | exact Or.inr rfl)) (pgs_cons (pg_name (i := 4) scLaw.nd rfl (by first | exact Or.inl rfl | exact Or.inr rfl)) pgs_nil))))
      (C8.pss_cut (ps_set (i := 5) scLaw.nd rfl (by first | exact Or.inl rfl | exact Or.inr rfl) (pe_makeH HFm (hr.mono (by decide)) rfl (pa_cons (pv 3) (pa_cons (pv 4) pa_nil))))
      (C8.pss_cut (ps_set (i := 6) scLaw.nd rfl (by first | exact Or.inl rfl | exact Or.inr rfl) (pe_ix ix_tup (pe_tup (pa_cons pe_str (pa_cons pe_str (pa_cons pe_str (pa_cons pe_str pa_nil))))) (pe_callH HT (hr.mono (by decide)) rfl (pa_cons (pv 1) (pa_cons pe_int pa_nil))) (fun _ _ => rfl)))
      (C8.pss_cut (ps_set (i := 7) scLaw.nd rfl (by first | exact Or.inl rfl | exact Or.inr rfl) (pe_callH HWs (hr.mono (by decide)) rfl (pa_cons (pv 1) (pa_cons pe_int pa_nil))))
      (C8.pss_cut (ps_set (i := 8) scLaw.nd rfl (by first | exact Or.inl rfl | exact Or.inr rfl) (pe_callH HEn (hr.mono (by decide)) rfl (pa_cons (pv 1) (pa_cons (pv 4) (pa_cons (pv 7) (pa_cons pe_int pa_nil))))))
      (C8.pss_cut (ps_set (i := 9) scLaw.nd rfl (by first | exact Or.inl rfl | exact Or.inr rfl) pe_non)
      (C8.pss_cut (ps_if (pt_cmpR op_eq (pv 6) pe_str (nomark _)) (pss_one (ps_set (i := 9) scLaw.nd rfl (by first | exact Or.inl rfl | exact Or.inr rfl) (pe_callH HWt (hr.mono (by decide)) rfl (pa_cons (pv 1) pa_nil)))) pss_nil)
      (C8.pss_cut (ps_set (i := 10) scLaw.nd rfl (by first | exact Or.inl rfl | exact Or.inr rfl) (pe_makeH HBk (hr.mono (by decide)) rfl (pa_cons (pv 6) (pa_cons (pv 8) (pa_cons (pv 9) pa_nil)))))
      (C8.pss_cut (ps_set (i := 11) scLaw.nd rfl (by first | exact Or.inl rfl | exact Or.inr rfl) (pe_callTy call_tuple_of rfl T.tuple (by decide +kernel) (pa_cons (pe_lc (own := [("cell", 12)]) rfl scLaw.nd (pi_tup (pv 4)) (blkOk_by (N := ["script", "deck", "turn", "many", "cells", "family", "manner", "words", "entries", "weights", "book", "due", "cell", "told", "less", "form", "at", "word", "other", "forms", "flag", "spot"]) (sc := defScope sLaw) (by decide +kernel)) (fun _ _ _ _ _ => (pg_name (i := 12) scLaw.nd rfl (by first | exact Or.inl rfl | exact Or.inr rfl))) (fun _ _ _ _ _ => pts_nil) (fun _ _ _ _ _ => (pe_callH HLF (hr.mono (by decide)) rfl (pa_cons (pv 6) (pa_cons (pv 8) (pa_cons (pv 9) (pa_cons (pv 12) pa_nil))))))) pa_nil)))
      (C8.pss_cut (ps_set (i := 13) scLaw.nd rfl (by first | exact Or.inl rfl | exact Or.inr rfl) (pe_callH HMa (hr.mono (by decide)) rfl (pa_cons (pv 10) (pa_cons (pv 5) pa_nil))))
      (C8.pss_cut (ps_if (PW.pt (pw_or (pt_not (pt_val (pe_callB call_isi rfl T.isinstance (by decide +kernel) (pa_cons (pv 13) (pa_cons (pe_glob (v := .ref C) rfl TT.mgC rfl) pa_nil))))) (pw_or (pt_not (pt_val (pe_callH HLk (hr.mono (by decide)) rfl (pa_cons (pe_fld (pv 13) rfl) (pa_cons (pv 11) pa_nil))))) (pw_or1 (pt_not (pt_cmpR (op_eqH HEq (hr.mono (by decide))) (pe_fld (pv 13) rfl) (pv 5) (nomark _))))))) (pss_one (ps_ret pe_bl)) pss_nil)
      (C8.pss_cut (ps_set (i := 14) scLaw.nd rfl (by first | exact Or.inl rfl | exact Or.inr rfl) (pe_callTy call_tuple_of rfl T.tuple (by decide +kernel) (pa_cons (pe_lc (own := [("form", 15)]) rfl scLaw.nd (pi_tup (pv 11)) (blkOk_by (N := ["script", "deck", "turn", "many", "cells", "family", "manner", "words", "entries", "weights", "book", "due", "cell", "told", "less", "form", "at", "word", "other", "forms", "flag", "spot"]) (sc := defScope sLaw) (by decide +kernel)) (fun _ _ _ _ _ => (pg_name (i := 15) scLaw.nd rfl (by first | exact Or.inl rfl | exact Or.inr rfl))) (fun _ _ _ _ _ => pts_nil) (fun _ _ _ _ _ => (pe_ix (show IxR _ (rIxL K) from ix_list) (pe_lst (pa_cons (pv 15) (pa_cons pe_non pa_nil))) (pe_callTy call_int1 rfl T.int (by decide +kernel) (pa_cons (pe_cmpR op_eq (pe_callH HT (hr.mono (by decide)) rfl (pa_cons (pv 1) (pa_cons pe_int pa_nil))) pe_int (nomark _)) pa_nil)) (fun _ _ => rfl)))) pa_nil)))
      (C8.pss_cut (ps_if (PW.pt (pw_or (pt_cmpR op_isnot_bl (pe_callH HMs (hr.mono (by decide)) rfl (pa_cons (pv 10) (pa_cons (pv 13) pa_nil))) pe_bl (nomark _)) (pw_or1 (pt_cmpR op_isnot_bl (pe_callH HMs (hr.mono (by decide)) rfl (pa_cons (pv 10) (pa_cons (pe_makeH HTb (hr.mono (by decide)) rfl (pa_cons (pv 5) (pa_cons (pv 14) pa_nil))) pa_nil))) pe_bl (nomark _))))) (pss_one (ps_ret pe_bl)) pss_nil)
      (C8.pss_cut (ps_set (i := 16) scLaw.nd rfl (by first | exact Or.inl rfl | exact Or.inr rfl) (pe_callH HT (hr.mono (by decide)) rfl (pa_cons (pv 1) (pa_cons (pe_callB call_len rfl T.len PySem.boot_len (pa_cons (pv 4) pa_nil)) pa_nil))))
      (C8.pss_cut (ps_set (i := 17) scLaw.nd rfl (by first | exact Or.inl rfl | exact Or.inr rfl) (pe_ix ix_list (pe_op op_cat (pv 7) (pe_lst (pa_cons pe_str pa_nil))) (pe_callH HT (hr.mono (by decide)) rfl (pa_cons (pv 1) (pa_cons (pe_op op_add (pe_callB call_len rfl T.len PySem.boot_len (pa_cons (pv 7) pa_nil)) pe_int) pa_nil))) (fun _ _ => rfl)))
      (C8.pss_cut (ps_set (i := 18) scLaw.nd rfl (by first | exact Or.inl rfl | exact Or.inr rfl) (pe_makeH HTb (hr.mono (by decide)) rfl (pa_cons (pv 5) (pa_cons (pe_op op_catA (pe_op op_catA (pe_slice sl_tupA (pv 14) po_none (po_some (pv 16))) (pe_tup (pa_cons (pv 17) pa_nil))) (pe_slice sl_tupA (pv 14) (po_some (pe_op op_add (pv 16) pe_int)) po_none)) pa_nil))))
      (C8.pss_cut (ps_if (pt_not (pt_val (pe_callH HLk (hr.mono (by decide)) rfl (pa_cons (pe_callH HMs (hr.mono (by decide)) rfl (pa_cons (pv 10) (pa_cons (pv 18) pa_nil))) (pa_cons (pe_cmpR op_eq (pe_ix ix_tup (pv 11) (pv 16) (fun _ _ => rfl)) (pv 17) (nomark _)) pa_nil))))) (pss_one (ps_ret pe_bl)) pss_nil)
      (C8.pss_cut (ps_if (pt_cmpR op_isnot_bl (pe_callH HMs (hr.mono (by decide)) rfl (pa_cons (pv 10) (pa_cons (pe_makeH HTb (hr.mono (by decide)) rfl (pa_cons (pv 5) (pa_cons (pe_op op_repN (pe_tup (pa_cons pe_non pa_nil)) (pe_callB call_len rfl T.len PySem.boot_len (pa_cons (pv 4) pa_nil))) pa_nil))) pa_nil))) pe_bl (nomark _)) (pss_one (ps_ret pe_bl)) pss_nil)
      (C8.pss_cut (ps_set (i := 19) scLaw.nd rfl (by first | exact Or.inl rfl | exact Or.inr rfl) (pe_callH HFo (hr.mono (by decide)) rfl (pa_cons (pv 1) (pa_cons (pv 4) (pa_cons (pv 7) pa_nil)))))
      (C8.pss_cut (ps_set (i := 20) scLaw.nd rfl (by first | exact Or.inl rfl | exact Or.inr rfl) (pe_callB (cr_all rfl) rfl T.all (by decide +kernel) (pa_cons (pe_lc (own := [("spot", 21)]) rfl scLaw.nd (pi_range1 rfl T.range (pa_cons (pe_callB call_len rfl T.len PySem.boot_len (pa_cons (pv 4) pa_nil)) pa_nil)) (blkOk_by (N := ["script", "deck", "turn", "many", "cells", "family", "manner", "words", "entries", "weights", "book", "due", "cell", "told", "less", "form", "at", "word", "other", "forms", "flag", "spot"]) (sc := defScope sLaw) (by decide +kernel)) (fun _ _ _ _ _ => (pg_name (i := 21) scLaw.nd rfl (by first | exact Or.inl rfl | exact Or.inr rfl))) (fun _ _ _ _ _ => pts_nil) (fun _ _ _ _ _ => (pe_or (pe_cmpR op_isN (pe_ix (show IxR _ (rIxT K) from ix_tup) (pv 19) (pv 21) (fun _ _ => rfl)) pe_non (nomark _)) (pe_one (pe_cmpR op_eq (pe_ix (show IxR _ (rIxT K) from ix_tup) (pv 19) (pv 21) (fun _ _ => rfl)) (pe_ix (show IxR _ (rIxT K) from ix_tup) (pv 11) (pv 21) (fun _ _ => rfl)) (nomark _)))))) pa_nil)))
      (pss_one (ps_if (pt_not (pt_val (pe_callH HLk (hr.mono (by decide)) rfl (pa_cons (pe_callH HMs (hr.mono (by decide)) rfl (pa_cons (pv 10) (pa_cons (pe_makeH HTb (hr.mono (by decide)) rfl (pa_cons (pv 5) (pa_cons (pv 19) pa_nil))) pa_nil))) (pa_cons (pv 20) pa_nil))))) (pss_one (ps_ret pe_bl)) pss_nil)))))))))))))))))))))))
      (pss_one (ps_ret pe_bl)))), ?_⟩
    refine ⟨fun σ' H1 => ∃ a ld : Addr, Deck H1 a ld ∧ σ' = [some (.ref sa), some (.ref a), none, none, none, none, none, none, none, none, none, none, none, none, none, none, none, none, none, none, none, none], ?_, ?_⟩
    · exact ⟨_, rfl, sa, ns, rfl, hS, hlen, fun a ld H1 hd1 s1 => ⟨a, ld, hd1, rfl⟩⟩
    rintro σ' H1 ⟨a, ld, hd1, rfl⟩
    refine ⟨fun _ _ => True, ?_, fun _ H2 _ => k H2⟩
    refine ⟨_, rfl, by decide, by decide, ?_⟩
    refine for_range (n := 4) (fun i σ H2 => Deck H2 a ld ∧ ∃ v2 v3 v4 v5 v6 v7 v8 v9 v10 v11 v12 v13 v14 v15 v16 v17 v18 v19 v20 v21 : Option V, σ = [some (.ref sa), some (.ref a), v2, v3, v4, v5, v6, v7, v8, v9, v10, v11, v12, v13, v14, v15, v16, v17, v18, v19, v20, v21]) ⟨hd1, _, _, _, _, _, _, _, _, _, _, _, _, _, _, _, _, _, _, _, _, rfl⟩ ?_ (fun σ H2 _ => trivial)
    rintro i σ H2 hi ⟨hd2, v2, v3, v4, v5, v6, v7, v8, v9, v10, v11, v12, v13, v14, v15, v16, v17, v18, v19, v20, v21, rfl⟩
    clear hi hd1
    refine ⟨fun σ' H3 => ∃ (pc : Addr) (many : Int) (cy : List V) (cells : List (List Int)), FamOk many cells ∧ Deck H3 a ld ∧ H3 pc = some (.tup cy) ∧ Mks H3 cy cells ∧ ∃ w2, σ' = [some (.ref sa), some (.ref a), w2, some (.int many), some (.ref pc), v5, v6, v7, v8, v9, v10, v11, v12, v13, v14, v15, v16, v17, v18, v19, v20, v21], ?_, ?_⟩
    · refine ⟨_, rfl, a, ld, rfl, hd2, fun v p many ys cells H3 tv hp mk fam hd3 f3 => ?_⟩
      obtain ⟨t, rfl, ht⟩ := tv
      exact ⟨t, _, rfl, sqT ht, rfl, _, _, rfl, _, _, rfl, rfl, p, many, ys, cells, fam, hd3, hp, mk, _, rfl⟩
    clear hd2
    rintro σ' H3 ⟨pc, many, cy, cells, fam, hd3, cp, cm, w2, rfl⟩
    have cyl : cy.length = cells.length := Paired.length cm
    have few := fam.len
    have c0 : 0 < cells.length := List.length_pos_iff.mpr fam.ne
    have okc : ∀ c ∈ cells, MarksOk 6 c := fun c hc => (fam.ok c hc).le fam.hi
    refine ⟨fun σ' H4 => ∃ fm : Addr, FamAt CF H4 fm many pc ∧ Deck H4 a ld ∧ H4 pc = some (.tup cy) ∧ Mks H4 cy cells ∧ σ' = [some (.ref sa), some (.ref a), w2, some (.int many), some (.ref pc), some (.ref fm), v6, v7, v8, v9, v10, v11, v12, v13, v14, v15, v16, v17, v18, v19, v20, v21], ?_, ?_⟩
    · refine ⟨_, rfl, _, rfl, ?_⟩
      intro x dx nx ndx nex
      have s5 : Same H3 (upd (upd H3 dx (.own x)) x (.ins CF dx [])) := fun b o e => by rw [upd_ne (ne_of_none e nx), upd_ne (ne_of_none e ndx)]; exact e
      refine ⟨x, dx, many, pc, cy, cells, rfl, upd_same, s5 _ _ cp, cm.keep (TFr.same s5), fam, fun H5 hf kp => ?_⟩
      have s45 : Same H3 H5 := fun b o e => kp b o (s5 b o e) (ne_of_none e nx)
      exact ⟨rfl, x, hf, hd3.keep s45, s45 _ _ cp, cm.keep (TFr.same s45), rfl⟩
    clear hd3 cp cm
    rintro σ' H4 ⟨fm, fa4, hd4, cp4, cm4, rfl⟩
    refine ⟨fun σ' H5 => ∃ man : Str, Man man ∧ Deck H5 a ld ∧ Fr a H4 H5 ∧ σ' = [some (.ref sa), some (.ref a), w2, some (.int many), some (.ref pc), some (.ref fm), some (.str man), v7, v8, v9, v10, v11, v12, v13, v14, v15, v16, v17, v18, v19, v20, v21], ?_, ?_⟩
    · refine ⟨(by show 4 ≤ sizeLine; decide), fun t ht => ?_⟩
      have et : (upd H4 t (.tup [.str "row", .str "within", .str "weights", .str "most"])) t = some (.tup [.str "row", .str "within", .str "weights", .str "most"]) := upd_same
      have s1 : Same H4 (upd H4 t (.tup [.str "row", .str "within", .str "weights", .str "most"])) := Same.new ht
      generalize upd H4 t (.tup [.str "row", .str "within", .str "weights", .str "most"]) = G1 at *
      have hd1 := hd4.keep s1
      refine ⟨_, rfl, a, ld, _, rfl, hd1, by decide, by decide, fun d H5 d0 d1 hd5 f5 _ => ?_⟩
      have et2 := hd1.tfr f5 _ _ et
      obtain ⟨j, man, ej, en, hm⟩ := man_four d0 d1
      exact ⟨t, _, _, _, rfl, rfl, sqT et2, at_of ej en, man, hm, hd5, (Fr.same s1).trans f5, rfl⟩
    rintro σ' H5 ⟨man, hm, hd5, f5, rfl⟩
    have fa5 := fa4.fr hd4 f5
    have cp5 := hd4.tfr f5 _ _ cp4
    have cm5 : Mks H5 cy cells := cm4.keep (hd4.tfr f5)
    clear fa4 cp4 cm4 f5 hd4
    refine ⟨fun σ' H6 => Deck H6 a ld ∧ Fr a H5 H6 ∧ ∃ (qw : Addr) (zs : List Str), H6 qw = some (.lst (zs.map V.str)) ∧ qw ≠ a ∧ qw ≠ ld ∧ zs ≠ [] ∧ zs.length ≤ 6 ∧ (∀ z ∈ zs, WordOk z) ∧ σ' = [some (.ref sa), some (.ref a), w2, some (.int many), some (.ref pc), some (.ref fm), some (.str man), some (.ref qw), v8, v9, v10, v11, v12, v13, v14, v15, v16, v17, v18, v19, v20, v21], ?_, ?_⟩
    · exact ⟨_, rfl, a, ld, _, rfl, hd5, by decide, by decide, fun q zs H6 zne zl znd zok eq hq hd6 f6 => ⟨hd6, f6, q, zs, eq, hd5.ne hq, hd5.ne' hq, zne, by omega, zok, rfl⟩⟩
    rintro σ' H6 ⟨hd6, f6, qw, zs, wq, nw, mw, zne, zl, zok, rfl⟩
    have fa6 := fa5.fr hd5 f6
    have cp6 := hd5.tfr f6 _ _ cp5
    have cm6 : Mks H6 cy cells := cm5.keep (hd5.tfr f6)
    clear fa5 cp5 cm5 f6 hd5
    have npc : pc ≠ a := by
      obtain ⟨ys, hy⟩ := hd6.is
      exact ne_of cp6 hy (by intro z; cases z)
    refine ⟨fun σ' H7 => Deck H7 a ld ∧ Fr a H6 H7 ∧ ∃ (pe : Addr) (ey : List V) (es : List Ent), H7 pe = some (.tup ey) ∧ Ents H7 ey es ∧ es.length ≤ 10 ∧ (∀ e ∈ es, EntOk e) ∧ σ' = [some (.ref sa), some (.ref a), w2, some (.int many), some (.ref pc), some (.ref fm), some (.str man), some (.ref qw), some (.ref pe), v9, v10, v11, v12, v13, v14, v15, v16, v17, v18, v19, v20, v21], ?_, ?_⟩
    · exact ⟨_, rfl, _, rfl, _, rfl, a, ld, pc, qw, cy, cells, zs, _, rfl, hd6, npc, .inr cp6, cm6, fam.ne, by omega, okc, wq, nw, zne, by omega, zok, by decide, by decide,
        fun r ey es H7 er em el eok hd7 f7 => ⟨hd7, f7, r, ey, es, er, em, by omega, eok, rfl⟩⟩
    rintro σ' H7 ⟨hd7, f7, pe, ey, es, ep7, em7, el, eok, rfl⟩
    have fa7 := fa6.fr hd6 f7
    have cp7 := hd6.tfr f7 _ _ cp6
    have cm7 : Mks H7 cy cells := cm6.keep (hd6.tfr f7)
    have wq7 := f7 _ _ wq nw
    clear fa6 cp6 cm6 wq f7 hd6
    refine ⟨fun σ' H8 => H8 = H7 ∧ σ' = [some (.ref sa), some (.ref a), w2, some (.int many), some (.ref pc), some (.ref fm), some (.str man), some (.ref qw), some (.ref pe), some .non, v10, v11, v12, v13, v14, v15, v16, v17, v18, v19, v20, v21], ⟨rfl, rfl⟩, ?_⟩
    rintro σ' H8 ⟨rfl, rfl⟩
    refine ⟨fun σ' H9 => Deck H9 a ld ∧ Fr a H8 H9 ∧ ∃ (wt : V) (ws : List Int), WtIs H9 man wt ws ∧ σ' = [some (.ref sa), some (.ref a), w2, some (.int many), some (.ref pc), some (.ref fm), some (.str man), some (.ref qw), some (.ref pe), some wt, v10, v11, v12, v13, v14, v15, v16, v17, v18, v19, v20, v21], ?_, ?_⟩
    · refine ⟨_, rfl, rfl, _, rfl, ?_⟩
      refine ite2 (fun is => ?_) (fun no => ?_)
      · have e : man = "weights" := V.str.inj (of_decide_eq_true is)
        exact ⟨_, rfl, a, ld, rfl, hd7, fun v ws H9 mw wl wb hd9 f9 => ⟨hd9, f9, v, ws, .inr ⟨e, mw, wl, wb⟩, rfl⟩⟩
      · exact ⟨hd7, Fr.refl _ _, .non, [], .inl ⟨fun e => no (decide_eq_true (congrArg V.str e)), rfl⟩, rfl⟩
    rintro σ' H9 ⟨hd9, f9, wt, ws, hw9, rfl⟩
    have fa9 := fa7.fr hd7 f9
    have t9 := hd7.tfr f9
    have cp9 := t9 _ _ cp7
    have cm9 : Mks H9 cy cells := cm7.keep t9
    have wq9 := f9 _ _ wq7 nw
    have ep9 := t9 _ _ ep7
    have em9 := Ents.keep t9 em7
    clear fa7 cp7 cm7 wq7 ep7 em7 f9 t9 hd7
    refine ⟨fun σ' H10 => Same H9 H10 ∧ ∃ bk : Addr, BookSt CB H10 bk man ws es ∧ σ' = [some (.ref sa), some (.ref a), w2, some (.int many), some (.ref pc), some (.ref fm), some (.str man), some (.ref qw), some (.ref pe), some wt, some (.ref bk), v11, v12, v13, v14, v15, v16, v17, v18, v19, v20, v21], ?_, ?_⟩
    · refine ⟨_, rfl, _, rfl, _, rfl, ?_⟩
      exact fun bx dx nx ndx _ => made_book nx ndx hm hw9 ep9 em9 eok (by omega) fun G6 hb s6 => ⟨rfl, s6, bx, hb, rfl⟩
    rintro σ' H10 ⟨s10, bk, bo10, rfl⟩
    have hd10 := hd9.keep s10
    have fa10 : FamAt CF H10 fm many pc := by
      obtain ⟨dx, hf⟩ := fa9
      exact ⟨dx, s10 _ _ hf⟩
    have cp10 := s10 _ _ cp9
    have cm10 : Mks H10 cy cells := cm9.keep (TFr.same s10)
    have wq10 := s10 _ _ wq9
    have ep10 := s10 _ _ ep9
    have em10 := Ents.keep (TFr.same s10) em9
    have hw10 := hw9.keep (TFr.same s10)
    clear hd9 fa9 cp9 cm9 wq9 ep9 em9 hw9 s10
    have dlen : (heardAll man ws es cells).length = cells.length := heardAll_len _ _ _ _
    refine ⟨fun σ' H11 => Deck H11 a ld ∧ ∃ dq : Addr, Set15 CF CB fm pc bk dq qw many cy cells man ws es zs H11 ∧ σ' = [some (.ref sa), some (.ref a), w2, some (.int many), some (.ref pc), some (.ref fm), some (.str man), some (.ref qw), some (.ref pe), some wt, some (.ref bk), some (.ref dq), v12, v13, v14, v15, v16, v17, v18, v19, v20, v21], ?_, ?_⟩
    · refine ⟨_, rfl, pc, rfl, ⟨_, sqT cp10⟩, fun D hD => ?_⟩
      refine lc_tup (K := K) (a := pc) (xs := cy) (fun i H4 => Same H10 H4 ∧ H4 D = some (.lst (((heardAll man ws es cells).take i).map formV))) ⟨Same.new hD, upd_same⟩ (fun i H4 _ ⟨e, _⟩ => sqT (e _ _ cp10)) ?_ ?_
      · rintro i y H4 hi ⟨sm, e4⟩
        have lt := (List.getElem?_eq_some_iff.mp hi).1
        obtain ⟨c, hc, mc⟩ := Paired.get (cm10.keep (TFr.same sm)) hi
        refine ⟨rfl, _, rfl, _, rfl, _, rfl, _, rfl, man, pe, wt, y, ey, ws, es, c, rfl, hm, hw10.keep (TFr.same sm), sm _ _ ep10, Ents.keep (TFr.same sm) em10, eok, by omega, mc, fun H5 s5 => ?_⟩
        refine ⟨_, s5 _ _ e4, by rw [List.length_map]; exact small1000 (Nat.le_trans (List.length_take_le _ _) (by omega)), fun b o h => by rw [upd_ne (ne_of_none h hD)]; exact s5 _ _ (sm b o h), ?_⟩
        rw [upd_same, List.take_add_one, heardAll_at hc, List.map_append]
        rfl
      · rintro H4 ⟨sm, e4⟩
        rw [List.take_of_length_le (by omega)] at e4
        refine ⟨D, _, rfl, .inl ⟨SqL.of e4, fun l hl => ?_⟩⟩
        have s5 : Same H10 (upd H4 l (.tup ((heardAll man ws es cells).map formV))) := sm.trans (Same.new hl)
        have e5 : (upd H4 l (.tup ((heardAll man ws es cells).map formV))) l = some (.tup ((heardAll man ws es cells).map formV)) := upd_same
        generalize upd H4 l (.tup ((heardAll man ws es cells).map formV)) = H5 at *
        obtain ⟨dx, hf⟩ := fa10
        exact ⟨hd10.keep s5, l, ⟨⟨dx, s5 _ _ hf⟩, s5 _ _ cp10, cm10.keep (TFr.same s5), bo10.same s5, e5, s5 _ _ wq10⟩, rfl⟩
    clear hd10 fa10 cp10 cm10 wq10 ep10 em10 hw10 bo10
    rintro σ' H11 ⟨hd11, dq, P11, rfl⟩
    have due_ok : ∀ z, some z ∈ heardAll man ws es cells → z ∈ es.map (·.2) := fun z hz => heardAll_mem hz
    have ewd := words_ok eok
    generalize hdue : heardAll man ws es cells = due at *
    refine ⟨fun σ' H12 => Same H11 H12 ∧ ∃ tb tp : Addr, TabAt C H12 tb fm tp ∧ H12 tp = some (.tup (due.map formV)) ∧ σ' = [some (.ref sa), some (.ref a), w2, some (.int many), some (.ref pc), some (.ref fm), some (.str man), some (.ref qw), some (.ref pe), some wt, some (.ref bk), some (.ref dq), v12, some (.ref tb), v14, v15, v16, v17, v18, v19, v20, v21], ?_, ?_⟩
    · refine ⟨_, rfl, _, rfl, bk, fm, man, ws, es, many, pc, cy, cells, rfl, P11.bo, hm, P11.fa, P11.cp, P11.cm, fam, by omega, fun t p H12 ht hp s12 => ?_⟩
      rw [hdue] at hp
      exact ⟨s12, t, p, ht, hp, rfl⟩
    rintro σ' H12 ⟨s12, tb, tp, tb12, tp12, rfl⟩
    have P12 := P11.same s12
    have hd12 := hd11.keep s12
    clear P11 hd11 s12
    refine ⟨fun σ' H13 => Same H12 H13 ∧ σ' = [some (.ref sa), some (.ref a), w2, some (.int many), some (.ref pc), some (.ref fm), some (.str man), some (.ref qw), some (.ref pe), some wt, some (.ref bk), some (.ref dq), v12, some (.ref tb), v14, v15, v16, v17, v18, v19, v20, v21], ?_, ?_⟩
    · obtain ⟨dt, ht⟩ := tb12
      obtain ⟨df, hf⟩ := P12.fa
      have du12 := P12.du
      rw [hdue] at du12
      refine ⟨_, rfl, _, _, _, _, true, rfl, .own C, CT.is ht, kit_own C, _, rfl, ?_⟩
      refine iteF ?_
      refine ⟨_, rfl, tb, C, dt, _, _, rfl, ht, TT.cl, TT.nO, tabF_forms _ _, _, rfl, .inr ⟨_, _, due.map formV, rfl, ⟨tp, rfl, tp12⟩, ⟨dq, rfl, du12⟩, flat_forms _, by rw [List.length_map]; omega, fun H13 s13 => ⟨_, rfl, ?_⟩⟩⟩
      refine iteF ?_
      refine ⟨_, rfl, tb, C, dt, _, _, rfl, s13 _ _ ht, TT.cl, TT.nF, tabF_family _ _, _, rfl, ⟨fm, fm, df, df, _, _, rfl, rfl, s13 _ _ hf, s13 _ _ hf, many, pc, cy, cells, ⟨df, s13 _ _ hf⟩, ⟨df, s13 _ _ hf⟩, s13 _ _ P12.cp, P12.cm.keep (TFr.same s13)⟩, fun H14 s14 => ⟨_, rfl, ?_⟩⟩
      exact iteF ⟨s13.trans s14, rfl⟩
    rintro σ' H13 ⟨s13, rfl⟩
    have P13 := P12.same s13
    have hd13 := hd12.keep s13
    have tb13 : TabAt C H13 tb fm tp := by
      obtain ⟨dt, ht⟩ := tb12
      exact ⟨dt, s13 _ _ ht⟩
    have tp13 := s13 _ _ tp12
    clear P12 hd12 tb12 tp12 s13
    refine ⟨fun σ' G1 => Deck G1 a ld ∧ Fr a H13 G1 ∧ ∃ (lq : Addr) (gs : List (Option Str)), G1 lq = some (.tup (gs.map formV)) ∧ Less due gs ∧ gs.length = cells.length ∧ σ' = [some (.ref sa), some (.ref a), w2, some (.int many), some (.ref pc), some (.ref fm), some (.str man), some (.ref qw), some (.ref pe), some wt, some (.ref bk), some (.ref dq), v12, some (.ref tb), some (.ref lq), v15, v16, v17, v18, v19, v20, v21], ?_, ?_⟩
    · have du13 := P13.du
      rw [hdue] at du13
      refine ⟨_, rfl, dq, rfl, ⟨_, sqT du13⟩, fun D hD => ?_⟩
      have nD := hd13.ne hD
      have mD := hd13.ne' hD
      refine lc_tup (K := K) (a := dq) (xs := due.map formV) (fun i H4 => Deck H4 a ld ∧ Fr a H13 H4 ∧ ∃ gs : List (Option Str), H4 D = some (.lst (gs.map formV)) ∧ Less due gs ∧ gs.length = i) ⟨hd13.keep (Same.new hD), Fr.new hD, [], upd_same, (fun j x h => by cases h), rfl⟩ (fun i H4 _ ⟨_, e, _⟩ => sqT (hd13.tfr e _ _ du13)) ?_ ?_
      · rintro i y H4 hi ⟨hd4, f4, gs, e4, less, gl⟩
        rw [List.getElem?_map] at hi
        obtain ⟨form, at_, rfl⟩ := Option.map_eq_some_iff.mp hi
        have lt := (List.getElem?_eq_some_iff.mp at_).1
        refine ⟨rfl, _, rfl, (by show 2 ≤ sizeLine; decide), fun l hl => ?_⟩
        have sl : Same H4 (upd H4 l (.lst [formV form, .non])) := Same.new hl
        have eL : (upd H4 l (.lst [formV form, .non])) l = some (.lst [formV form, .non]) := upd_same
        have nl := hd4.ne hl
        have nDl : D ≠ l := ne_of_none e4 hl
        generalize upd H4 l (.lst [formV form, .non]) = H5 at *
        have hd5 := hd4.keep sl
        refine ⟨_, rfl, a, ld, 3, rfl, hd5, by decide, by decide, fun d H6 d0 d3 hd6 f6 _ => ?_⟩
        have e6 := f6 _ _ (sl _ _ e4) nD
        have eL6 := f6 _ _ eL nl
        have pick : ∃ (j : Nat) (x : Option Str), (if decide (V.int d = V.int 0) = true then (1 : Int) else 0) = (j : Int) ∧ ([formV form, .non] : List V)[j]? = some (formV x) ∧ (x = none ∨ x = form) := by
          by_cases q : decide (V.int d = V.int 0) = true
          · exact ⟨1, none, by rw [if_pos q]; rfl, rfl, .inl rfl⟩
          · exact ⟨0, form, by rw [if_neg q]; rfl, rfl, .inr rfl⟩
        obtain ⟨j, x, ej, ex, ox⟩ := pick
        refine ⟨rfl, .inr ⟨_, rfl, l, _, _, _, rfl, rfl, SqL.of eL6, at_of ej ex, ?_⟩⟩
        refine ⟨_, e6, by rw [List.length_map]; exact small1000 (by omega), hd6.put nD mD, fun b o h n => by rw [upd_ne (ne_of_none h hD)]; exact f6 _ _ (sl _ _ (f4 _ _ h n)) n, gs ++ [x], by rw [upd_same, List.map_append]; rfl, less.snoc (ox.imp id fun e => by rw [gl, at_, e]), by rw [List.length_append, gl]; rfl⟩
      · rintro H4 ⟨hd4, f4, gs, e4, less, gl⟩
        rw [List.length_map, dlen] at gl
        exact ⟨D, _, rfl, .inl ⟨SqL.of e4, fun r hr => ⟨hd4.keep (Same.new hr), f4.trans (Fr.new hr), r, gs, upd_same, less, gl, rfl⟩⟩⟩
    rintro σ' G1 ⟨hdg1, fg1, lq, gs, lq1, less, gl, rfl⟩
    have P1 := P13.fr hd13 fg1 nw
    have tb1 := tb13.fr hd13 fg1
    have tp1 := hd13.tfr fg1 _ _ tp13
    clear P13 hd13 tb13 tp13 fg1
    have due_few : FormsOk cells.length due := forms_few dlen few ewd (by rw [List.length_map]; omega) due_ok
    have gs_few : FormsOk cells.length gs := forms_few gl few ewd (by rw [List.length_map]; omega) fun z hz => due_ok z (less.mem hz)
    have cyF : ∀ {fs : List (Option Str)}, FormsOk cells.length fs → FormsOk cy.length fs := fun h => by rw [cyl]; exact h
    refine ⟨fun σ' G2 => Same G1 G2 ∧ σ' = [some (.ref sa), some (.ref a), w2, some (.int many), some (.ref pc), some (.ref fm), some (.str man), some (.ref qw), some (.ref pe), some wt, some (.ref bk), some (.ref dq), v12, some (.ref tb), some (.ref lq), v15, v16, v17, v18, v19, v20, v21], ?_, ?_⟩
    · refine ⟨_, rfl, _, rfl, bk, tb, fm, tp, man, ws, es, many, pc, cy, cells, due, rfl, P1.bo, hm, tb1, tp1, P1.fa, P1.cp, P1.cm, fam, dlen, fun G2 s2 => ⟨_, _, rfl, rfl, _, rfl, ?_⟩⟩
      rw [hdue, (Less.self due).agree _ (by omega)]
      refine iteF ?_
      have P2 := P1.same s2
      refine ⟨_, rfl, _, rfl, _, rfl, ?_⟩
      intro y dy ny ndy ney
      refine made_table ny ndy P2.fa P2.cp (s2 _ _ lq1) (cyF gs_few) fun G3 ht s3 => ⟨rfl, ?_⟩
      have P3 := P2.same s3
      refine ⟨bk, y, fm, lq, man, ws, es, many, pc, cy, cells, gs, rfl, P3.bo, hm, ht, s3 _ _ (s2 _ _ lq1), P3.fa, P3.cp, P3.cm, fam, gl, fun G4 s4 => ⟨_, _, rfl, rfl, _, rfl, ?_⟩⟩
      rw [hdue, less.agree _ (by omega)]
      exact iteF ⟨(s2.trans s3).trans s4, rfl⟩
    rintro σ' G2 ⟨s2, rfl⟩
    have P2 := P1.same s2
    have hdg2 := hdg1.keep s2
    have lq2 := s2 _ _ lq1
    clear P1 hdg1 tb1 tp1 lq1 s2
    refine ⟨fun σ' G3 => Deck G3 a ld ∧ Fr a G2 G3 ∧ ∃ at_ : Nat, at_ < cells.length ∧ σ' = [some (.ref sa), some (.ref a), w2, some (.int many), some (.ref pc), some (.ref fm), some (.str man), some (.ref qw), some (.ref pe), some wt, some (.ref bk), some (.ref dq), v12, some (.ref tb), some (.ref lq), v15, some (.int (at_ : Int)), v17, v18, v19, v20, v21], ?_, ?_⟩
    · refine ⟨_, rfl, _, rfl, _, cy.length, rfl, .inr ⟨_, sqT P2.cp, rfl⟩, a, ld, _, rfl, hdg2, by omega, by omega, fun d G3 d0 d1 hd3 f3 _ => ?_⟩
      obtain ⟨j, rfl⟩ : ∃ j : Nat, d = (j : Int) := ⟨d.toNat, by omega⟩
      exact ⟨hd3, f3, j, by omega, rfl⟩
    rintro σ' G3 ⟨hdg3, fg3, at_, atl, rfl⟩
    have P3 := P2.fr hdg2 fg3 nw
    have lq3 := hdg2.tfr fg3 _ _ lq2
    clear P2 hdg2 lq2 fg3
    refine ⟨fun σ' G4 => Deck G4 a ld ∧ Fr a G3 G4 ∧ ∃ zw : Str, WordOk zw ∧ σ' = [some (.ref sa), some (.ref a), w2, some (.int many), some (.ref pc), some (.ref fm), some (.str man), some (.ref qw), some (.ref pe), some wt, some (.ref bk), some (.ref dq), v12, some (.ref tb), some (.ref lq), v15, some (.int (at_ : Int)), some (.str zw), v18, v19, v20, v21], ?_, ?_⟩
    · refine ⟨_, rfl, (by show 1 ≤ sizeLine; decide), fun l hl => ?_⟩
      have sl : Same G3 (upd G3 l (.lst [.str "zzzzzzzz"])) := Same.new hl
      have eL : (upd G3 l (.lst [.str "zzzzzzzz"])) l = some (.lst [.str "zzzzzzzz"]) := upd_same
      generalize upd G3 l (.lst [.str "zzzzzzzz"]) = G4 at *
      have wq4 := sl _ _ P3.wq
      have hdg4 := hdg3.keep sl
      refine ⟨qw, l, _, _, rfl, rfl, wq4, eL, by rw [List.length_map]; show zs.length + 1 ≤ sizeLine; exact Nat.le_of_lt (small1000 (by omega)), fun p hp => ?_⟩
      have ee : zs.map V.str ++ [.str "zzzzzzzz"] = (zs ++ [("zzzzzzzz" : Str)]).map V.str := by rw [List.map_append]; rfl
      have sp : Same G4 (upd G4 p (.lst (zs.map V.str ++ [.str "zzzzzzzz"]))) := Same.new hp
      have ep : (upd G4 p (.lst (zs.map V.str ++ [.str "zzzzzzzz"]))) p = some (.lst ((zs ++ [("zzzzzzzz" : Str)]).map V.str)) := by rw [upd_same, ee]
      have np := hdg4.ne hp
      generalize upd G4 p (.lst (zs.map V.str ++ [.str "zzzzzzzz"])) = G5 at *
      have hdg5 := hdg4.keep sp
      refine ⟨_, rfl, _, rfl, _, zs.length, rfl, .inl ⟨_, SqL.of (sp _ _ wq4), by rw [List.length_map]⟩, _, _, rfl, rfl, ?_⟩
      refine ⟨a, ld, _, rfl, hdg5, by omega, by omega, fun d G6 d0 d1 hd6 f6 _ => ?_⟩
      obtain ⟨j, rfl⟩ : ∃ j : Nat, d = (j : Int) := ⟨d.toNat, by omega⟩
      have jl : j < (zs ++ [("zzzzzzzz" : Str)]).length := by rw [List.length_append]; show j < zs.length + 1; omega
      refine ⟨p, _, _, _, rfl, rfl, SqL.of (f6 _ _ ep np), at_of (j := j) rfl (by rw [List.getElem?_map, List.getElem?_eq_getElem jl] <;> rfl), ?_⟩
      refine ⟨hd6, (Fr.same (sl.trans sp)).trans f6, _, ?_, rfl⟩
      rcases List.mem_append.mp (List.getElem_mem jl) with h | h
      · exact zok _ h
      · rw [List.mem_singleton.mp h]; exact z8_ok
    rintro σ' G4 ⟨hdg4, fg4, zw, zwok, rfl⟩
    have P4 := P3.fr hdg3 fg4 nw
    have lq4 := hdg3.tfr fg4 _ _ lq3
    clear P3 hdg3 lq3 fg4
    have put_few : FormsOk cells.length (putAt gs at_ zw) := forms_few (zs := zw :: es.map (·.2)) (by rw [putAt_len (by omega)]; exact gl) few (fun z hz => by
      rcases List.mem_cons.mp hz with h | h
      · rw [h]; exact zwok
      · exact ewd z h) (by rw [List.length_cons, List.length_map]; omega) fun z hz => by
      rcases putAt_mem hz with h | h
      · rw [h]; exact List.mem_cons_self
      · exact List.mem_cons_of_mem _ (due_ok z (less.mem h))
    refine ⟨fun σ' G5 => Same G4 G5 ∧ ∃ ob op : Addr, TabAt C G5 ob fm op ∧ G5 op = some (.tup ((putAt gs at_ zw).map formV)) ∧ σ' = [some (.ref sa), some (.ref a), w2, some (.int many), some (.ref pc), some (.ref fm), some (.str man), some (.ref qw), some (.ref pe), some wt, some (.ref bk), some (.ref dq), v12, some (.ref tb), some (.ref lq), v15, some (.int (at_ : Int)), some (.str zw), some (.ref ob), v19, v20, v21], ?_, ?_⟩
    · refine ⟨_, rfl, _, rfl, ?_⟩
      refine ⟨_, rfl, _, rfl, lq, _, rfl, sqT lq4, (fun w => absurd w (part_lo (by rw [List.length_map]; omega))), fun _ p1 hp1 => ?_⟩
      rw [cutTo]
      have q1 : Same G4 (upd G4 p1 (.tup ((gs.map formV).take at_))) := Same.new hp1
      have e1 : (upd G4 p1 (.tup ((gs.map formV).take at_))) p1 = some (.tup ((gs.map formV).take at_)) := upd_same
      generalize upd G4 p1 (.tup ((gs.map formV).take at_)) = J1 at *
      refine ⟨_, rfl, (by show 1 ≤ sizeLine; decide), fun p2 hp2 => ?_⟩
      have q2 : Same J1 (upd J1 p2 (.tup [.str zw])) := Same.new hp2
      have e2 : (upd J1 p2 (.tup [.str zw])) p2 = some (.tup [.str zw]) := upd_same
      generalize upd J1 p2 (.tup [.str zw]) = J2 at *
      have tl : ((gs.map formV).take at_).length ≤ 24 := Nat.le_trans (List.length_take_le _ _) (by omega)
      have dl : ((gs.map formV).drop (at_ + 1)).length ≤ 24 := by rw [List.length_drop, List.length_map]; omega
      refine cat_of (q2 _ _ e1) e2 (by show _ + 1 ≤ sizeLine; exact Nat.le_of_lt (small1000 (by omega))) fun p3 J3 e3 q3 => ?_
      have q13 := (q1.trans q2).trans q3
      refine ⟨_, rfl, _, rfl, _, _, rfl, rfl, _, rfl, lq, _, rfl, sqT (q13 _ _ lq4), (fun w => absurd w (part_hi (by rw [List.length_map]; omega))), fun _ p4 hp4 => ?_⟩
      rw [show ((at_ : Int) + 1) = ((at_ + 1 : Nat) : Int) by omega, cutFrom]
      have q4 : Same J3 (upd J3 p4 (.tup ((gs.map formV).drop (at_ + 1)))) := Same.new hp4
      have e4 : (upd J3 p4 (.tup ((gs.map formV).drop (at_ + 1)))) p4 = some (.tup ((gs.map formV).drop (at_ + 1))) := upd_same
      generalize upd J3 p4 (.tup ((gs.map formV).drop (at_ + 1))) = J4 at *
      refine cat_of (q4 _ _ e3) e4 (by rw [List.length_append]; show _ + 1 + _ ≤ sizeLine; exact Nat.le_of_lt (small1000 (by omega))) fun p5 J5 e5 q5 => ?_
      have q15 := (q13.trans q4).trans q5
      have P5 := P4.same q15
      have ep : (gs.map formV).take at_ ++ [.str zw] ++ (gs.map formV).drop (at_ + 1) = (putAt gs at_ zw).map formV := by
        unfold putAt
        rw [List.map_append, List.map_append, List.map_take, List.map_drop]
        rfl
      rw [ep] at e5
      intro y dy ny ndy ney
      exact made_table ny ndy P5.fa P5.cp e5 (cyF put_few) fun G3 ht s3 => ⟨rfl, q15.trans s3, y, p5, ht, s3 _ _ e5, rfl⟩
    rintro σ' G5 ⟨g5, ob, op, tb5, op5, rfl⟩
    have P5 := P4.same g5
    have hdg5 := hdg4.keep g5
    clear P4 hdg4 lq4 g5
    refine ⟨fun σ' G6 => Same G5 G6 ∧ σ' = [some (.ref sa), some (.ref a), w2, some (.int many), some (.ref pc), some (.ref fm), some (.str man), some (.ref qw), some (.ref pe), some wt, some (.ref bk), some (.ref dq), v12, some (.ref tb), some (.ref lq), v15, some (.int (at_ : Int)), some (.str zw), some (.ref ob), v19, v20, v21], ?_, ?_⟩
    · have du5 := P5.du
      rw [hdue] at du5
      have dat : due[at_]? = some due[at_] := List.getElem?_eq_getElem (by omega)
      refine ⟨_, rfl, _, rfl, bk, ob, fm, op, man, ws, es, many, pc, cy, cells, _, rfl, P5.bo, hm, tb5, op5, P5.fa, P5.cp, P5.cm, fam, put_few.len, fun G6 s6 => ?_⟩
      refine ⟨_, rfl, _, rfl, dq, _, _, _, rfl, rfl, sqT (s6 _ _ du5), at_of (j := at_) rfl (by rw [List.getElem?_map, dat]; rfl), _, rfl, forms_scal _ (some zw), ?_⟩
      have e : agree (putAt gs at_ zw) due cells.length = decide (formV due[at_] = V.str zw) := by
        rw [← gl, putAt_agree less (by omega) dat]
        exact (formV_eq due[at_] (some zw)).symm
      rw [hdue, e]
      exact .inl ⟨_, rfl, rfl, fun G7 s7 => ⟨_, rfl, iteF ⟨s6.trans s7, rfl⟩⟩⟩
    rintro σ' G6 ⟨s6, rfl⟩
    have P6 := P5.same s6
    have hdg6 := hdg5.keep s6
    clear P5 hdg5 tb5 op5 s6
    have open_few : FormsOk cells.length (List.replicate cells.length none) := forms_few (zs := []) List.length_replicate few (fun z hz => by cases hz) (by decide) fun z hz => by
      have := List.eq_of_mem_replicate hz
      cases this
    refine ⟨fun σ' G7 => Same G6 G7 ∧ σ' = [some (.ref sa), some (.ref a), w2, some (.int many), some (.ref pc), some (.ref fm), some (.str man), some (.ref qw), some (.ref pe), some wt, some (.ref bk), some (.ref dq), v12, some (.ref tb), some (.ref lq), v15, some (.int (at_ : Int)), some (.str zw), some (.ref ob), v19, v20, v21], ?_, ?_⟩
    · refine ⟨_, rfl, _, rfl, (by show 1 ≤ sizeLine; decide), fun t ht => ?_⟩
      have st : Same G6 (upd G6 t (.tup [.non])) := Same.new ht
      have et : (upd G6 t (.tup [.non])) t = some (.tup [.non]) := upd_same
      generalize upd G6 t (.tup [.non]) = J1 at *
      have R1 := P6.same st
      refine ⟨_, rfl, _, cy.length, rfl, .inr ⟨_, sqT R1.cp, rfl⟩, t, _, [.non], rfl, rfl, sqT et, (by intro z; cases z), by omega, by omega, (by show 1 ≤ 1000; decide), fun k1 => ?_, fun k2 p hp => ?_⟩
      · have n1 : cells.length = 1 := by omega
        have e1 : J1 t = some (.tup ((List.replicate cells.length none).map formV)) := by
          rw [et, n1]
          rfl
        intro y dy ny ndy ney
        refine made_table ny ndy R1.fa R1.cp e1 (cyF open_few) fun G3 ht s3 => ⟨rfl, ?_⟩
        have Q3 := R1.same s3
        refine ⟨bk, y, fm, t, man, ws, es, many, pc, cy, cells, _, rfl, Q3.bo, hm, ht, s3 _ _ e1, Q3.fa, Q3.cp, Q3.cm, fam, open_few.len, fun G4 s4 => ⟨_, _, rfl, rfl, _, rfl, ?_⟩⟩
        rw [hdue, (open_less due cells.length).agree _ (by rw [List.length_replicate]; exact Nat.le_refl _)]
        exact iteF ⟨(st.trans s3).trans s4, rfl⟩
      · have sp : Same J1 (upd J1 p (.tup (List.replicate ((cy.length : Nat) : Int).toNat [V.non]).flatten)) := Same.new hp
        have e2 : (upd J1 p (.tup (List.replicate ((cy.length : Nat) : Int).toNat [V.non]).flatten)) p = some (.tup ((List.replicate cells.length none).map formV)) := by
          rw [upd_same, rep_one, Int.toNat_natCast, cyl, open_forms]
        generalize upd J1 p (.tup (List.replicate ((cy.length : Nat) : Int).toNat [V.non]).flatten) = J2 at *
        have s02 := st.trans sp
        have R2 := R1.same sp
        intro y dy ny ndy ney
        refine made_table ny ndy R2.fa R2.cp e2 (cyF open_few) fun G3 ht s3 => ⟨rfl, ?_⟩
        have Q3 := R2.same s3
        refine ⟨bk, y, fm, p, man, ws, es, many, pc, cy, cells, _, rfl, Q3.bo, hm, ht, s3 _ _ e2, Q3.fa, Q3.cp, Q3.cm, fam, open_few.len, fun G4 s4 => ⟨_, _, rfl, rfl, _, rfl, ?_⟩⟩
        rw [hdue, (open_less due cells.length).agree _ (by rw [List.length_replicate]; exact Nat.le_refl _)]
        exact iteF ⟨(s02.trans s3).trans s4, rfl⟩
    rintro σ' G7 ⟨s7, rfl⟩
    have P7 := P6.same s7
    have hdg7 := hdg6.keep s7
    clear P6 hdg6 s7
    refine ⟨fun σ' G8 => Deck G8 a ld ∧ Fr a G7 G8 ∧ ∃ (fq : Addr) (fs : List (Option Str)), G8 fq = some (.tup (fs.map formV)) ∧ FormsOk cells.length fs ∧ σ' = [some (.ref sa), some (.ref a), w2, some (.int many), some (.ref pc), some (.ref fm), some (.str man), some (.ref qw), some (.ref pe), some wt, some (.ref bk), some (.ref dq), v12, some (.ref tb), some (.ref lq), v15, some (.int (at_ : Int)), some (.str zw), some (.ref ob), some (.ref fq), v20, v21], ?_, ?_⟩
    · refine ⟨_, rfl, _, rfl, _, rfl, a, ld, pc, qw, cy, zs, rfl, hdg7, P7.cp, by omega, P7.wq, nw, mw, zne, by omega, fun r fs G8 hr8 len told hd8 f8 => ?_⟩
      exact ⟨hd8, f8, r, fs, hr8, forms_few (by omega) few zok (by omega) told, rfl⟩
    rintro σ' G8 ⟨hdg8, fg8, fq, fs, fq8, fs_few, rfl⟩
    have P8 := P7.fr hdg7 fg8 nw
    clear P7 hdg7 fg8
    have flen := fs_few.len
    have du8 := P8.du
    rw [hdue] at du8
    refine ⟨fun σ' G9 => Same G8 G9 ∧ ∃ fl : Bool, fl = agree fs due cells.length ∧ σ' = [some (.ref sa), some (.ref a), w2, some (.int many), some (.ref pc), some (.ref fm), some (.str man), some (.ref qw), some (.ref pe), some wt, some (.ref bk), some (.ref dq), v12, some (.ref tb), some (.ref lq), v15, some (.int (at_ : Int)), some (.str zw), some (.ref ob), some (.ref fq), some (.bl fl), v21], ?_, ?_⟩
    · refine ⟨_, rfl, _, cy.length, rfl, .inr ⟨_, sqT P8.cp, rfl⟩, _, rfl, by omega, by omega, fun D hD => ?_⟩
      refine lc_range (n := ((cy.length : Nat) : Int).toNat) (fun i H4 => Same G8 H4 ∧ H4 D = some (.lst (((List.range i).map (fits1 fs due)).map V.bl))) ⟨Same.new hD, upd_same⟩ ?_ ?_
      · rintro i H4 hi ⟨s4, e4⟩
        have hi1 : i < fs.length := by omega
        have hi2 : i < due.length := by omega
        have fi : fs[i]? = some fs[i] := List.getElem?_eq_getElem hi1
        have di : due[i]? = some due[i] := List.getElem?_eq_getElem hi2
        have fm_ : (fs.map formV)[i]? = some (formV fs[i]) := by rw [List.getElem?_map, fi]; rfl
        have dm_ : (due.map formV)[i]? = some (formV due[i]) := by rw [List.getElem?_map, di]; rfl
        have e := fits1_at fi di
        have nx : (List.range (i + 1)).map (fits1 fs due) = (List.range i).map (fits1 fs due) ++ [fits1 fs due i] := by rw [List.range_succ, List.map_append]; rfl
        have sz : (((List.range i).map (fits1 fs due)).map V.bl).length < sizeLine := by rw [List.length_map, List.length_map, List.length_range]; exact small1000 (by omega)
        refine ⟨rfl, _, rfl, _, rfl, fq, _, _, _, rfl, rfl, sqT (s4 _ _ fq8), at_of (j := i) (by omega) fm_, rfl, _, rfl, ?_⟩
        refine ite2 (fun y => ?_) (fun n => ?_)
        · refine ⟨_, e4, sz, fun b o h => by rw [upd_ne (ne_of_none h hD)]; exact s4 b o h, ?_⟩
          have y' : decide (fs[i] = none) = true := (formV_non fs[i]).symm.trans y
          rw [upd_same, nx, e, y', Bool.true_or, List.map_append]
          rfl
        · refine ⟨_, rfl, _, rfl, fq, _, _, _, rfl, rfl, sqT (s4 _ _ fq8), at_of (j := i) (by omega) fm_, _, rfl, _, rfl, dq, _, _, _, rfl, rfl, sqT (s4 _ _ du8), at_of (j := i) (by omega) dm_, forms_scal _ _, ?_⟩
          refine ⟨_, e4, sz, fun b o h => by rw [upd_ne (ne_of_none h hD)]; exact s4 b o h, ?_⟩
          have n' : decide (fs[i] = none) = false := by
            cases h : decide (fs[i] = none) with
            | false => rfl
            | true => exact absurd ((formV_non fs[i]).trans h) n
          rw [upd_same, nx, e, n', Bool.false_or, formV_eq, List.map_append]
          rfl
      · rintro H4 ⟨s4, e4⟩
        rw [Int.toNat_natCast, cyl] at e4
        refine ⟨D, _, rfl, SqL.of e4, s4, _, ?_, rfl⟩
        unfold agree
        rw [List.all_map]
        rfl
    rintro σ' G9 ⟨s9, fl, efl, rfl⟩
    have P9 := P8.same s9
    have hdg9 := hdg8.keep s9
    refine ⟨_, rfl, _, rfl, _, rfl, ?_⟩
    intro y dy ny ndy ney
    refine made_table ny ndy P9.fa P9.cp (s9 _ _ fq8) (cyF fs_few) fun G3 ht s3 => ⟨rfl, ?_⟩
    have Q3 := P9.same s3
    refine ⟨bk, y, fm, fq, man, ws, es, many, pc, cy, cells, fs, rfl, Q3.bo, hm, ht, s3 _ _ (s9 _ _ fq8), Q3.fa, Q3.cp, Q3.cm, fam, flen, fun G4 s4 => ?_⟩
    rw [hdue, ← efl]
    refine ⟨_, rfl, .inl ⟨_, rfl, rfl, fun G5 s5 => ⟨_, rfl, iteF ?_⟩⟩⟩
    exact ⟨((hdg9.keep s3).keep s4).keep s5, _, _, _, _, _, _, _, _, _, _, _, _, _, _, _, _, _, _, _, _, rfl⟩
end
end Xci

namespace Xci
open PySem L2
set_option maxHeartbeats 8000000 in
theorem all_mk {l : PySem.W.OpenLaw} {w : World} {K : PySem.W.Frag} {h : Heap} {mg : Str → Option Value} {fa f0 f1 f2 f3 f4 f5 f6 f7 f8 f9 f10 f11 f12 f13 f14 f15 f16 f17 f18 f19 f20 f21 f22 f23 f24 f25 f26 f27 f28 f29 f30 f31 f32 f33 f34 f35 f36 f37 f38 f39 f40 f41 f42 f43 f44 f45 C CF CB aM : Addr} (X : K.In h) (G : h.Ns mainGlobals mg) (hfa : mg "law" = some (.ref fa))
    {od0 an0 od1 an1 od2 an2 od3 an3 od4 an4 od5 an5 od6 an6 od7 an7 od8 an8 od9 an9 od10 an10 od11 an11 od12 an12 od13 an13 od14 an14 od15 an15 od16 an16 od17 an17 od18 an18 od19 an19 od20 an20 od21 an21 od22 an22 od23 an23 od24 an24 od25 an25 od26 an26 od27 an27 od28 an28 od29 an29 od30 an30 od31 an31 od32 an32 od33 an33 od34 an34 od35 an35 od36 an36 od37 an37 od38 an38 od39 an39 od40 an40 od41 an41 od42 an42 od43 an43 od44 an44 od45 an45 odM : Option Addr} {sl0 sl1 sl2 sl3 sl4 sl5 sl6 sl7 sl8 sl9 sl10 sl11 sl12 sl13 sl14 sl15 sl16 sl17 sl18 sl19 sl20 sl21 sl22 sl23 sl24 sl25 sl26 sl27 sl28 sl29 sl30 sl31 sl32 sl33 sl34 sl35 sl36 sl37 sl38 sl39 sl40 sl41 sl42 sl43 sl44 sl45 slM : Array (Option Value)} {oc0 kV0 dc0 pm0 cd0 ct0 oc1 kV1 dc1 pm1 cd1 ct1 oc2 kV2 dc2 pm2 cd2 ct2 oc3 kV3 dc3 pm3 cd3 ct3 oc4 kV4 dc4 pm4 cd4 ct4 oc5 kV5 dc5 pm5 cd5 ct5 oc6 kV6 dc6 pm6 cd6 ct6 oc7 kV7 dc7 pm7 cd7 ct7 oc8 kV8 dc8 pm8 cd8 ct8 oc9 kV9 dc9 pm9 cd9 ct9 oc10 kV10 dc10 pm10 cd10 ct10 oc11 kV11 dc11 pm11 cd11 ct11 oc12 kV12 dc12 pm12 cd12 ct12 oc13 kV13 dc13 pm13 cd13 ct13 oc14 kV14 dc14 pm14 cd14 ct14 oc15 kV15 dc15 pm15 cd15 ct15 oc16 kV16 dc16 pm16 cd16 ct16 oc17 kV17 dc17 pm17 cd17 ct17 oc18 kV18 dc18 pm18 cd18 ct18 oc19 kV19 dc19 pm19 cd19 ct19 oc20 kV20 dc20 pm20 cd20 ct20 oc21 kV21 dc21 pm21 cd21 ct21 oc22 kV22 dc22 pm22 cd22 ct22 oc23 kV23 dc23 pm23 cd23 ct23 oc24 kV24 dc24 pm24 cd24 ct24 oc25 kV25 dc25 pm25 cd25 ct25 oc26 kV26 dc26 pm26 cd26 ct26 oc27 kV27 dc27 pm27 cd27 ct27 oc28 kV28 dc28 pm28 cd28 ct28 oc29 kV29 dc29 pm29 cd29 ct29 oc30 kV30 dc30 pm30 cd30 ct30 oc31 kV31 dc31 pm31 cd31 ct31 oc32 kV32 dc32 pm32 cd32 ct32 oc33 kV33 dc33 pm33 cd33 ct33 oc34 kV34 dc34 pm34 cd34 ct34 oc35 kV35 dc35 pm35 cd35 ct35 oc36 kV36 dc36 pm36 cd36 ct36 oc37 kV37 dc37 pm37 cd37 ct37 oc38 kV38 dc38 pm38 cd38 ct38 oc39 kV39 dc39 pm39 cd39 ct39 oc40 kV40 dc40 pm40 cd40 ct40 oc41 kV41 dc41 pm41 cd41 ct41 oc42 kV42 dc42 pm42 cd42 ct42 oc43 kV43 dc43 pm43 cd43 ct43 oc44 kV44 dc44 pm44 cd44 ct44 oc45 kV45 dc45 pm45 cd45 ct45 : Value} {u0 u1 u2 u3 u4 u5 u6 w0 w1 w2 w3 : Tok} {nM : Nat}
    (a0 : PySem.W.nsIn K mainGlobals "is_integer" = some (some (.ref f0))) (l0 : K.lookup f0 = some ⟨oc0, od0, .func (PySem.W.fnOf "is_integer" "is_integer" (defArgs sIsInteger) (defBody sIsInteger) (defScope sIsInteger) .none kV0 dc0 pm0 an0 cd0 ct0), sl0⟩) (c0 : PySem.W.codeIn K cd0 "is_integer" = true) (k0 : PySem.W.keepIn K (.ref f0) = true)
    (a1 : PySem.W.nsIn K mainGlobals "is_between" = some (some (.ref f1))) (l1 : K.lookup f1 = some ⟨oc1, od1, .func (PySem.W.fnOf "is_between" "is_between" (defArgs sIsBetween) (defBody sIsBetween) (defScope sIsBetween) .none kV1 dc1 pm1 an1 cd1 ct1), sl1⟩) (c1 : PySem.W.codeIn K cd1 "is_between" = true) (k1 : PySem.W.keepIn K (.ref f1) = true)
    (a2 : PySem.W.nsIn K mainGlobals "is_cell" = some (some (.ref f2))) (l2 : K.lookup f2 = some ⟨oc2, od2, .func (PySem.W.fnOf "is_cell" "is_cell" (defArgs sIsCell) (defBody sIsCell) (defScope sIsCell) .none kV2 dc2 pm2 an2 cd2 ct2), sl2⟩) (c2 : PySem.W.codeIn K cd2 "is_cell" = true) (k2 : PySem.W.keepIn K (.ref f2) = true)
    (a3 : PySem.W.nsIn K mainGlobals "is_form" = some (some (.ref f3))) (l3 : K.lookup f3 = some ⟨oc3, od3, .func (PySem.W.fnOf "is_form" "is_form" (defArgs sIsForm) (defBody sIsForm) (defScope sIsForm) .none kV3 dc3 pm3 an3 cd3 ct3), sl3⟩) (c3 : PySem.W.codeIn K cd3 "is_form" = true) (k3 : PySem.W.keepIn K (.ref f3) = true)
    (a4 : PySem.W.nsIn K mainGlobals "lies_within" = some (some (.ref f4))) (l4 : K.lookup f4 = some ⟨oc4, od4, .func (PySem.W.fnOf "lies_within" "lies_within" (defArgs sLiesWithin) (defBody sLiesWithin) (defScope sLiesWithin) .none kV4 dc4 pm4 an4 cd4 ct4), sl4⟩) (c4 : PySem.W.codeIn K cd4 "lies_within" = true) (k4 : PySem.W.keepIn K (.ref f4) = true)
    (a5 : PySem.W.nsIn K mainGlobals "_are_forms" = some (some (.ref f5))) (l5 : K.lookup f5 = some ⟨oc5, od5, .func (PySem.W.fnOf "_are_forms" "_are_forms" (defArgs sAreForms) (defBody sAreForms) (defScope sAreForms) .none kV5 dc5 pm5 an5 cd5 ct5), sl5⟩) (c5 : PySem.W.codeIn K cd5 "_are_forms" = true) (k5 : PySem.W.keepIn K (.ref f5) = true)
    (a6 : PySem.W.nsIn K mainGlobals "_unlike" = some (some (.ref f6))) (l6 : K.lookup f6 = some ⟨oc6, od6, .func (PySem.W.fnOf "_unlike" "_unlike" (defArgs sUnlike) (defBody sUnlike) (defScope sUnlike) .none kV6 dc6 pm6 an6 cd6 ct6), sl6⟩) (c6 : PySem.W.codeIn K cd6 "_unlike" = true) (k6 : PySem.W.keepIn K (.ref f6) = true)
    (a7 : PySem.W.nsIn K mainGlobals "limited" = some (some (.ref f7))) (l7 : K.lookup f7 = some ⟨oc7, od7, .func (PySem.W.fnOf "limited" "limited" (defArgs sLimited) (defBody sLimited) (defScope sLimited) .none kV7 dc7 pm7 an7 cd7 ct7), sl7⟩) (c7 : PySem.W.codeIn K cd7 "limited" = true) (k7 : PySem.W.keepIn K (.ref f7) = true)
    (a8 : PySem.W.nsIn K mainGlobals "is_entry" = some (some (.ref f8))) (l8 : K.lookup f8 = some ⟨oc8, od8, .func (PySem.W.fnOf "is_entry" "is_entry" (defArgs sIsEntry) (defBody sIsEntry) (defScope sIsEntry) .none kV8 dc8 pm8 an8 cd8 ct8), sl8⟩) (c8 : PySem.W.codeIn K cd8 "is_entry" = true) (k8 : PySem.W.keepIn K (.ref f8) = true)
    (a9 : PySem.W.nsIn K mainGlobals "_are_entries" = some (some (.ref f9))) (l9 : K.lookup f9 = some ⟨oc9, od9, .func (PySem.W.fnOf "_are_entries" "_are_entries" (defArgs sAreEntries) (defBody sAreEntries) (defScope sAreEntries) .none kV9 dc9 pm9 an9 cd9 ct9), sl9⟩) (c9 : PySem.W.codeIn K cd9 "_are_entries" = true) (k9 : PySem.W.keepIn K (.ref f9) = true)
    (a10 : PySem.W.nsIn K mainGlobals "_are_weights" = some (some (.ref f10))) (l10 : K.lookup f10 = some ⟨oc10, od10, .func (PySem.W.fnOf "_are_weights" "_are_weights" (defArgs sAreWeights) (defBody sAreWeights) (defScope sAreWeights) .none kV10 dc10 pm10 an10 cd10 ct10), sl10⟩) (c10 : PySem.W.codeIn K cd10 "_are_weights" = true) (k10 : PySem.W.keepIn K (.ref f10) = true)
    (a11 : PySem.W.nsIn K mainGlobals "fitting" = some (some (.ref f11))) (l11 : K.lookup f11 = some ⟨oc11, od11, .func (PySem.W.fnOf "fitting" "fitting" (defArgs sFitting) (defBody sFitting) (defScope sFitting) .none kV11 dc11 pm11 an11 cd11 ct11), sl11⟩) (c11 : PySem.W.codeIn K cd11 "fitting" = true) (k11 : PySem.W.keepIn K (.ref f11) = true)
    (a12 : PySem.W.nsIn K mainGlobals "rank" = some (some (.ref f12))) (l12 : K.lookup f12 = some ⟨oc12, od12, .func (PySem.W.fnOf "rank" "rank" (defArgs sRank) (defBody sRank) (defScope sRank) .none kV12 dc12 pm12 an12 cd12 ct12), sl12⟩) (c12 : PySem.W.codeIn K cd12 "rank" = true) (k12 : PySem.W.keepIn K (.ref f12) = true)
    (a13 : PySem.W.nsIn K mainGlobals "_highest" = some (some (.ref f13))) (l13 : K.lookup f13 = some ⟨oc13, od13, .func (PySem.W.fnOf "_highest" "_highest" (defArgs sHighest) (defBody sHighest) (defScope sHighest) .none kV13 dc13 pm13 an13 cd13 ct13), sl13⟩) (c13 : PySem.W.codeIn K cd13 "_highest" = true) (k13 : PySem.W.keepIn K (.ref f13) = true)
    (a14 : PySem.W.nsIn K mainGlobals "speaking" = some (some (.ref f14))) (l14 : K.lookup f14 = some ⟨oc14, od14, .func (PySem.W.fnOf "speaking" "speaking" (defArgs sSpeaking) (defBody sSpeaking) (defScope sSpeaking) .none kV14 dc14 pm14 an14 cd14 ct14), sl14⟩) (c14 : PySem.W.codeIn K cd14 "speaking" = true) (k14 : PySem.W.keepIn K (.ref f14) = true)
    (a15 : PySem.W.nsIn K mainGlobals "_holds_all" = some (some (.ref f15))) (l15 : K.lookup f15 = some ⟨oc15, od15, .func (PySem.W.fnOf "_holds_all" "_holds_all" (defArgs sHoldsAll) (defBody sHoldsAll) (defScope sHoldsAll) .none kV15 dc15 pm15 an15 cd15 ct15), sl15⟩) (c15 : PySem.W.codeIn K cd15 "_holds_all" = true) (k15 : PySem.W.keepIn K (.ref f15) = true)
    (a16 : PySem.W.nsIn K mainGlobals "form_among" = some (some (.ref f16))) (l16 : K.lookup f16 = some ⟨oc16, od16, .func (PySem.W.fnOf "form_among" "form_among" (defArgs sFormAmong) (defBody sFormAmong) (defScope sFormAmong) .none kV16 dc16 pm16 an16 cd16 ct16), sl16⟩) (c16 : PySem.W.codeIn K cd16 "form_among" = true) (k16 : PySem.W.keepIn K (.ref f16) = true)
    (a17 : PySem.W.nsIn K mainGlobals "_form_at" = some (some (.ref f17))) (l17 : K.lookup f17 = some ⟨oc17, od17, .func (PySem.W.fnOf "_form_at" "_form_at" (defArgs sFormAt) (defBody sFormAt) (defScope sFormAt) .none kV17 dc17 pm17 an17 cd17 ct17), sl17⟩) (c17 : PySem.W.codeIn K cd17 "_form_at" = true) (k17 : PySem.W.keepIn K (.ref f17) = true)
    (a18 : PySem.W.nsIn K mainGlobals "forms_made" = some (some (.ref f18))) (l18 : K.lookup f18 = some ⟨oc18, od18, .func (PySem.W.fnOf "forms_made" "forms_made" (defArgs sFormsMade) (defBody sFormsMade) (defScope sFormsMade) .none kV18 dc18 pm18 an18 cd18 ct18), sl18⟩) (c18 : PySem.W.codeIn K cd18 "forms_made" = true) (k18 : PySem.W.keepIn K (.ref f18) = true)
    (a19 : PySem.W.nsIn K mainGlobals "made" = some (some (.ref f19))) (l19 : K.lookup f19 = some ⟨oc19, od19, .func (PySem.W.fnOf "made" "made" (defArgs sMade) (defBody sMade) (defScope sMade) .none kV19 dc19 pm19 an19 cd19 ct19), sl19⟩) (c19 : PySem.W.codeIn K cd19 "made" = true) (k19 : PySem.W.keepIn K (.ref f19) = true)
    (a20 : PySem.W.nsIn K mainGlobals "makes" = some (some (.ref f20))) (l20 : K.lookup f20 = some ⟨oc20, od20, .func (PySem.W.fnOf "makes" "makes" (defArgs sMakes) (defBody sMakes) (defScope sMakes) .none kV20 dc20 pm20 an20 cd20 ct20), sl20⟩) (c20 : PySem.W.codeIn K cd20 "makes" = true) (k20 : PySem.W.keepIn K (.ref f20) = true)
    (a21 : PySem.W.nsIn K mainGlobals "_are_cells" = some (some (.ref f21))) (l21 : K.lookup f21 = some ⟨oc21, od21, .func (PySem.W.fnOf "_are_cells" "_are_cells" (defArgs sAreCells) (defBody sAreCells) (defScope sAreCells) .none kV21 dc21 pm21 an21 cd21 ct21), sl21⟩) (c21 : PySem.W.codeIn K cd21 "_are_cells" = true) (k21 : PySem.W.keepIn K (.ref f21) = true)
    (a22 : PySem.W.nsIn K mainGlobals "_law_deck" = some (some (.ref f22))) (l22 : K.lookup f22 = some ⟨oc22, od22, .func (PySem.W.fnOf "_law_deck" "_law_deck" (defArgs sLawDeck) (defBody sLawDeck) (defScope sLawDeck) .none kV22 dc22 pm22 an22 cd22 ct22), sl22⟩) (c22 : PySem.W.codeIn K cd22 "_law_deck" = true) (k22 : PySem.W.keepIn K (.ref f22) = true)
    (a23 : PySem.W.nsIn K mainGlobals "_law_take" = some (some (.ref f23))) (l23 : K.lookup f23 = some ⟨oc23, od23, .func (PySem.W.fnOf "_law_take" "_law_take" (defArgs sLawTake) (defBody sLawTake) (defScope sLawTake) .none kV23 dc23 pm23 an23 cd23 ct23), sl23⟩) (c23 : PySem.W.codeIn K cd23 "_law_take" = true) (k23 : PySem.W.keepIn K (.ref f23) = true)
    (a24 : PySem.W.nsIn K mainGlobals "_law_mixed" = some (some (.ref f24))) (l24 : K.lookup f24 = some ⟨oc24, od24, .func (PySem.W.fnOf "_law_mixed" "_law_mixed" (defArgs sLawMixed) (defBody sLawMixed) (defScope sLawMixed) .none kV24 dc24 pm24 an24 cd24 ct24), sl24⟩) (c24 : PySem.W.codeIn K cd24 "_law_mixed" = true) (k24 : PySem.W.keepIn K (.ref f24) = true)
    (a25 : PySem.W.nsIn K mainGlobals "_law_word" = some (some (.ref f25))) (l25 : K.lookup f25 = some ⟨oc25, od25, .func (PySem.W.fnOf "_law_word" "_law_word" (defArgs sLawWord) (defBody sLawWord) (defScope sLawWord) .none kV25 dc25 pm25 an25 cd25 ct25), sl25⟩) (c25 : PySem.W.codeIn K cd25 "_law_word" = true) (k25 : PySem.W.keepIn K (.ref f25) = true)
    (a26 : PySem.W.nsIn K mainGlobals "_law_words" = some (some (.ref f26))) (l26 : K.lookup f26 = some ⟨oc26, od26, .func (PySem.W.fnOf "_law_words" "_law_words" (defArgs sLawWords) (defBody sLawWords) (defScope sLawWords) .none kV26 dc26 pm26 an26 cd26 ct26), sl26⟩) (c26 : PySem.W.codeIn K cd26 "_law_words" = true) (k26 : PySem.W.keepIn K (.ref f26) = true)
    (a27 : PySem.W.nsIn K mainGlobals "_law_lots" = some (some (.ref f27))) (l27 : K.lookup f27 = some ⟨oc27, od27, .func (PySem.W.fnOf "_law_lots" "_law_lots" (defArgs sLawLots) (defBody sLawLots) (defScope sLawLots) .none kV27 dc27 pm27 an27 cd27 ct27), sl27⟩) (c27 : PySem.W.codeIn K cd27 "_law_lots" = true) (k27 : PySem.W.keepIn K (.ref f27) = true)
    (a28 : PySem.W.nsIn K mainGlobals "_law_family" = some (some (.ref f28))) (l28 : K.lookup f28 = some ⟨oc28, od28, .func (PySem.W.fnOf "_law_family" "_law_family" (defArgs sLawFamily) (defBody sLawFamily) (defScope sLawFamily) .none kV28 dc28 pm28 an28 cd28 ct28), sl28⟩) (c28 : PySem.W.codeIn K cd28 "_law_family" = true) (k28 : PySem.W.keepIn K (.ref f28) = true)
    (a29 : PySem.W.nsIn K mainGlobals "_law_forms" = some (some (.ref f29))) (l29 : K.lookup f29 = some ⟨oc29, od29, .func (PySem.W.fnOf "_law_forms" "_law_forms" (defArgs sLawForms) (defBody sLawForms) (defScope sLawForms) .none kV29 dc29 pm29 an29 cd29 ct29), sl29⟩) (c29 : PySem.W.codeIn K cd29 "_law_forms" = true) (k29 : PySem.W.keepIn K (.ref f29) = true)
    (a30 : PySem.W.nsIn K mainGlobals "_law_in" = some (some (.ref f30))) (l30 : K.lookup f30 = some ⟨oc30, od30, .func (PySem.W.fnOf "_law_in" "_law_in" (defArgs sLawIn) (defBody sLawIn) (defScope sLawIn) .none kV30 dc30 pm30 an30 cd30 ct30), sl30⟩) (c30 : PySem.W.codeIn K cd30 "_law_in" = true) (k30 : PySem.W.keepIn K (.ref f30) = true)
    (a31 : PySem.W.nsIn K mainGlobals "_law_proper" = some (some (.ref f31))) (l31 : K.lookup f31 = some ⟨oc31, od31, .func (PySem.W.fnOf "_law_proper" "_law_proper" (defArgs sLawProper) (defBody sLawProper) (defScope sLawProper) .none kV31 dc31 pm31 an31 cd31 ct31), sl31⟩) (c31 : PySem.W.codeIn K cd31 "_law_proper" = true) (k31 : PySem.W.keepIn K (.ref f31) = true)
    (a32 : PySem.W.nsIn K mainGlobals "_law_marks" = some (some (.ref f32))) (l32 : K.lookup f32 = some ⟨oc32, od32, .func (PySem.W.fnOf "_law_marks" "_law_marks" (defArgs sLawMarks) (defBody sLawMarks) (defScope sLawMarks) .none kV32 dc32 pm32 an32 cd32 ct32), sl32⟩) (c32 : PySem.W.codeIn K cd32 "_law_marks" = true) (k32 : PySem.W.keepIn K (.ref f32) = true)
    (a33 : PySem.W.nsIn K mainGlobals "_law_entries" = some (some (.ref f33))) (l33 : K.lookup f33 = some ⟨oc33, od33, .func (PySem.W.fnOf "_law_entries" "_law_entries" (defArgs sLawEntries) (defBody sLawEntries) (defScope sLawEntries) .none kV33 dc33 pm33 an33 cd33 ct33), sl33⟩) (c33 : PySem.W.codeIn K cd33 "_law_entries" = true) (k33 : PySem.W.keepIn K (.ref f33) = true)
    (a34 : PySem.W.nsIn K mainGlobals "_law_weights" = some (some (.ref f34))) (l34 : K.lookup f34 = some ⟨oc34, od34, .func (PySem.W.fnOf "_law_weights" "_law_weights" (defArgs sLawWeights) (defBody sLawWeights) (defScope sLawWeights) .none kV34 dc34 pm34 an34 cd34 ct34), sl34⟩) (c34 : PySem.W.codeIn K cd34 "_law_weights" = true) (k34 : PySem.W.keepIn K (.ref f34) = true)
    (a35 : PySem.W.nsIn K mainGlobals "_law_sum" = some (some (.ref f35))) (l35 : K.lookup f35 = some ⟨oc35, od35, .func (PySem.W.fnOf "_law_sum" "_law_sum" (defArgs sLawSum) (defBody sLawSum) (defScope sLawSum) .none kV35 dc35 pm35 an35 cd35 ct35), sl35⟩) (c35 : PySem.W.codeIn K cd35 "_law_sum" = true) (k35 : PySem.W.keepIn K (.ref f35) = true)
    (a36 : PySem.W.nsIn K mainGlobals "_law_fits" = some (some (.ref f36))) (l36 : K.lookup f36 = some ⟨oc36, od36, .func (PySem.W.fnOf "_law_fits" "_law_fits" (defArgs sLawFits) (defBody sLawFits) (defScope sLawFits) .none kV36 dc36 pm36 an36 cd36 ct36), sl36⟩) (c36 : PySem.W.codeIn K cd36 "_law_fits" = true) (k36 : PySem.W.keepIn K (.ref f36) = true)
    (a37 : PySem.W.nsIn K mainGlobals "_law_beats" = some (some (.ref f37))) (l37 : K.lookup f37 = some ⟨oc37, od37, .func (PySem.W.fnOf "_law_beats" "_law_beats" (defArgs sLawBeats) (defBody sLawBeats) (defScope sLawBeats) .none kV37 dc37 pm37 an37 cd37 ct37), sl37⟩) (c37 : PySem.W.codeIn K cd37 "_law_beats" = true) (k37 : PySem.W.keepIn K (.ref f37) = true)
    (a38 : PySem.W.nsIn K mainGlobals "_law_speaks" = some (some (.ref f38))) (l38 : K.lookup f38 = some ⟨oc38, od38, .func (PySem.W.fnOf "_law_speaks" "_law_speaks" (defArgs sLawSpeaks) (defBody sLawSpeaks) (defScope sLawSpeaks) .none kV38 dc38 pm38 an38 cd38 ct38), sl38⟩) (c38 : PySem.W.codeIn K cd38 "_law_speaks" = true) (k38 : PySem.W.keepIn K (.ref f38) = true)
    (a39 : PySem.W.nsIn K mainGlobals "_law_form_at" = some (some (.ref f39))) (l39 : K.lookup f39 = some ⟨oc39, od39, .func (PySem.W.fnOf "_law_form_at" "_law_form_at" (defArgs sLawFormAt) (defBody sLawFormAt) (defScope sLawFormAt) .none kV39 dc39 pm39 an39 cd39 ct39), sl39⟩) (c39 : PySem.W.codeIn K cd39 "_law_form_at" = true) (k39 : PySem.W.keepIn K (.ref f39) = true)
    (a40 : PySem.W.nsIn K mainGlobals "_law_like" = some (some (.ref f40))) (l40 : K.lookup f40 = some ⟨oc40, od40, .func (PySem.W.fnOf "_law_like" "_law_like" (defArgs sLawLike) (defBody sLawLike) (defScope sLawLike) .none kV40 dc40 pm40 an40 cd40 ct40), sl40⟩) (c40 : PySem.W.codeIn K cd40 "_law_like" = true) (k40 : PySem.W.keepIn K (.ref f40) = true)
    (a41 : PySem.W.nsIn K mainGlobals "law" = some (some (.ref f41))) (l41 : K.lookup f41 = some ⟨oc41, od41, .func (PySem.W.fnOf "law" "law" (defArgs sLaw) (defBody sLaw) (defScope sLaw) .none kV41 dc41 pm41 an41 cd41 ct41), sl41⟩) (c41 : PySem.W.codeIn K cd41 "law" = true) (k41 : PySem.W.keepIn K (.ref f41) = true)
    (a42 : PySem.W.findIn K (.ref C) "__init__" = some (some (.ref f42))) (i42 : PySem.W.isFn K (.ref f42) = true) (l42 : K.lookup f42 = some ⟨oc42, od42, .func (PySem.W.fnOf "__init__" "Table.__init__" (defArgs sTableInit) (defBody sTableInit) (defScope sTableInit) .none kV42 dc42 pm42 an42 cd42 ct42), sl42⟩) (c42 : PySem.W.codeIn K cd42 "Table.__init__" = true) (k42 : PySem.W.keepIn K (.ref f42) = true)
    (aCC : PySem.W.nsIn K mainGlobals "Table" = some (some (.ref C))) (pgCC : PySem.W.plainGet K C Str.empty = true) (hdCC : PySem.W.hasDictIn K C = true) (poCC : PySem.W.plainOver K C = true) (saCC : PySem.W.findIn K (.ref C) "__setattr__" = some (some (.builtin "object.__setattr__"))) (mkCC : PySem.W.makesIn K C = true) (kcCC : PySem.W.keepIn K (.ref C) = true)
    (nC_family : PySem.W.findIn K (.ref C) "family" = some none)
    (nC_forms : PySem.W.findIn K (.ref C) "forms" = some none)
    (a43 : PySem.W.findIn K (.ref CF) "__init__" = some (some (.ref f43))) (i43 : PySem.W.isFn K (.ref f43) = true) (l43 : K.lookup f43 = some ⟨oc43, od43, .func (PySem.W.fnOf "__init__" "Family.__init__" (defArgs sFamilyInit) (defBody sFamilyInit) (defScope sFamilyInit) .none kV43 dc43 pm43 an43 cd43 ct43), sl43⟩) (c43 : PySem.W.codeIn K cd43 "Family.__init__" = true) (k43 : PySem.W.keepIn K (.ref f43) = true)
    (aCCF : PySem.W.nsIn K mainGlobals "Family" = some (some (.ref CF))) (pgCCF : PySem.W.plainGet K CF Str.empty = true) (hdCCF : PySem.W.hasDictIn K CF = true) (poCCF : PySem.W.plainOver K CF = true) (saCCF : PySem.W.findIn K (.ref CF) "__setattr__" = some (some (.builtin "object.__setattr__"))) (mkCCF : PySem.W.makesIn K CF = true) (kcCCF : PySem.W.keepIn K (.ref CF) = true)
    (nCF_many : PySem.W.findIn K (.ref CF) "many" = some none)
    (nCF_cells : PySem.W.findIn K (.ref CF) "cells" = some none)
    (a44 : PySem.W.findIn K (.ref CB) "__init__" = some (some (.ref f44))) (i44 : PySem.W.isFn K (.ref f44) = true) (l44 : K.lookup f44 = some ⟨oc44, od44, .func (PySem.W.fnOf "__init__" "Book.__init__" (defArgs sBookInit) (defBody sBookInit) (defScope sBookInit) .none kV44 dc44 pm44 an44 cd44 ct44), sl44⟩) (c44 : PySem.W.codeIn K cd44 "Book.__init__" = true) (k44 : PySem.W.keepIn K (.ref f44) = true)
    (aCCB : PySem.W.nsIn K mainGlobals "Book" = some (some (.ref CB))) (pgCCB : PySem.W.plainGet K CB Str.empty = true) (hdCCB : PySem.W.hasDictIn K CB = true) (poCCB : PySem.W.plainOver K CB = true) (saCCB : PySem.W.findIn K (.ref CB) "__setattr__" = some (some (.builtin "object.__setattr__"))) (mkCCB : PySem.W.makesIn K CB = true) (kcCCB : PySem.W.keepIn K (.ref CB) = true)
    (nCB_manner : PySem.W.findIn K (.ref CB) "manner" = some none)
    (nCB_entries : PySem.W.findIn K (.ref CB) "entries" = some none)
    (nCB_weights : PySem.W.findIn K (.ref CB) "weights" = some none)
    (a45 : PySem.W.findIn K (.ref CF) "__eq__" = some (some (.ref f45))) (i45 : PySem.W.isFn K (.ref f45) = true) (l45 : K.lookup f45 = some ⟨oc45, od45, .func (PySem.W.fnOf "__eq__" "Family.__eq__" (defArgs sFamilyEq) (defBody sFamilyEq) (defScope sFamilyEq) .none kV45 dc45 pm45 an45 cd45 ct45), sl45⟩) (c45 : PySem.W.codeIn K cd45 "Family.__eq__" = true) (k45 : PySem.W.keepIn K (.ref f45) = true)
    (hAC : PySem.W.findIn K (.ref C) "__class__" = some (some (.builtin "object.__class__")))
    (hMC : PySem.W.mroIn K C (.type "object") = some true)
    (hACF : PySem.W.findIn K (.ref CF) "__class__" = some (some (.builtin "object.__class__")))
    (hMCF : PySem.W.mroIn K CF (.type "object") = some true)
    (hN : PySem.W.specialIn K (.builtin "object.__class__") "__get__" = some (some (.builtin "getset_descriptor.__get__")))
    (hT : PySem.W.takesIn K (.builtin "object.__class__") = some true)
    (z_len : PySem.W.nsIn K mainGlobals "len" = some none)
    (z_int : PySem.W.nsIn K mainGlobals "int" = some none)
    (z_abs : PySem.W.nsIn K mainGlobals "abs" = some none)
    (z_list : PySem.W.nsIn K mainGlobals "list" = some none)
    (z_tuple : PySem.W.nsIn K mainGlobals "tuple" = some none)
    (z_range : PySem.W.nsIn K mainGlobals "range" = some none)
    (z_min : PySem.W.nsIn K mainGlobals "min" = some none)
    (z_isinstance : PySem.W.nsIn K mainGlobals "isinstance" = some none)
    (z_enumerate : PySem.W.nsIn K mainGlobals "enumerate" = some none)
    (z_bool : PySem.W.nsIn K mainGlobals "bool" = some none)
    (z_str : PySem.W.nsIn K mainGlobals "str" = some none)
    (z_all : PySem.W.nsIn K mainGlobals "all" = some none)
    (z_any : PySem.W.nsIn K mainGlobals "any" = some none)
    (z_sum : PySem.W.nsIn K mainGlobals "sum" = some none)
    (z_max : PySem.W.nsIn K mainGlobals "max" = some none)
    (z_sorted : PySem.W.nsIn K mainGlobals "sorted" = some none)
    (z_zip : PySem.W.nsIn K mainGlobals "zip" = some none)
    (z_set : PySem.W.nsIn K mainGlobals "set" = some none)
    (g_LONGEST_FORM : PySem.W.nsIn K mainGlobals "LONGEST_FORM" = some (some (.int 8 u0)))
    (g_MOST_FORMS : PySem.W.nsIn K mainGlobals "MOST_FORMS" = some (some (.int 12 u1)))
    (g_MOST_MARKS : PySem.W.nsIn K mainGlobals "MOST_MARKS" = some (some (.int 6 u2)))
    (g_MOST_CELLS : PySem.W.nsIn K mainGlobals "MOST_CELLS" = some (some (.int 24 u3)))
    (g_MARKS : PySem.W.nsIn K mainGlobals "MARKS" = some (some (.int 6 u4)))
    (g_MOST_ENTRIES : PySem.W.nsIn K mainGlobals "MOST_ENTRIES" = some (some (.int 40 u5)))
    (g_MOST_WEIGHT : PySem.W.nsIn K mainGlobals "MOST_WEIGHT" = some (some (.int 1000000 u6)))
    (aM0 : PySem.W.nsIn K mainGlobals "MANNERS" = some (some (.ref aM))) (lM : K.lookup aM = some ⟨.type "tuple", odM, .seq #[.str "row" w0, .str "within" w1, .str "weights" w2, .str "most" w3] nM, slM⟩) :
    ∃ fd : FuncData, (∀ (s : Shared) (v : Value), BindsTo s fd ⟨[v], []⟩ [("script", v)]) ∧ ∀ base : Heap, K.In base → base.Ns mainGlobals mg → FnOk l.prog w K mg base CX0 8 fa fd ["script"] (spLaw K) := by
  have e := hfa.symm.trans (PySem.W.mg_of X G a41)
  cases e
  have T : Txt mg := ⟨PySem.W.mg_none_of X G z_len, PySem.W.mg_none_of X G z_int, PySem.W.mg_none_of X G z_abs, PySem.W.mg_none_of X G z_list, PySem.W.mg_none_of X G z_tuple, PySem.W.mg_none_of X G z_range, PySem.W.mg_none_of X G z_min, PySem.W.mg_none_of X G z_isinstance, PySem.W.mg_none_of X G z_enumerate, PySem.W.mg_none_of X G z_bool, PySem.W.mg_none_of X G z_str, PySem.W.mg_none_of X G z_all, PySem.W.mg_none_of X G z_any, PySem.W.mg_none_of X G z_sum, PySem.W.mg_none_of X G z_max, PySem.W.mg_none_of X G z_sorted, PySem.W.mg_none_of X G z_zip, PySem.W.mg_none_of X G z_set⟩
  have cF : FormCst mg := ⟨u0, PySem.W.mg_of X G g_LONGEST_FORM⟩
  have cT : TabCst mg := ⟨u1, PySem.W.mg_of X G g_MOST_FORMS⟩
  have cM : FamCst mg := ⟨u2, u3, PySem.W.mg_of X G g_MOST_MARKS, PySem.W.mg_of X G g_MOST_CELLS⟩
  have cB : Cst mg := ⟨u0, u4, u5, u6, PySem.W.mg_of X G g_LONGEST_FORM, PySem.W.mg_of X G g_MARKS, PySem.W.mg_of X G g_MOST_ENTRIES, PySem.W.mg_of X G g_MOST_WEIGHT⟩
  have TT : TabTxt K mg C := ⟨⟨pgCC, hdCC, poCC, saCC⟩, nC_family, nC_forms, PySem.W.mg_of X G aCC⟩
  have FT : FamTxt K mg CF := ⟨⟨pgCCF, hdCCF, poCCF, saCCF⟩, nCF_many, nCF_cells, PySem.W.mg_of X G aCCF⟩
  have BT : BkTxt K mg CB aM := ⟨⟨pgCCB, hdCCB, poCCB, saCCB⟩, nCB_manner, nCB_entries, nCB_weights, PySem.W.mg_of X G aCCB, PySem.W.mg_of X G aM0, fun H => .inr ⟨_, _, _, lM, rfl, rfl, (by show 4 ≤ sizeLine; decide), .cons ⟨_, rfl⟩ (.cons ⟨_, rfl⟩ (.cons ⟨_, rfl⟩ (.cons ⟨_, rfl⟩ (.nil))))⟩⟩
  have CTt : ClsTy K C := ⟨⟨pgCC, hdCC, poCC, saCC⟩, hAC, hN, hT, hMC⟩
  have CTf : ClsTy K CF := ⟨⟨pgCCF, hdCCF, poCCF, saCCF⟩, hACF, hN, hT, hMCF⟩
  have F_is_integer := fun_mk (st := sIsInteger) l0 c0 k0
  have b_is_integer := F_is_integer.binds (ps := ["thing"]) fun _ _ _ _ _ _ us hl => match us, hl with | [_], _ => rfl
  have F_is_between := fun_mk (st := sIsBetween) l1 c1 k1
  have b_is_between := F_is_between.binds (ps := ["low", "high", "thing"]) fun _ _ _ _ _ _ us hl => match us, hl with | [_, _, _], _ => rfl
  have F_is_cell := fun_mk (st := sIsCell) l2 c2 k2
  have b_is_cell := F_is_cell.binds (ps := ["many", "thing"]) fun _ _ _ _ _ _ us hl => match us, hl with | [_, _], _ => rfl
  have F_is_form := fun_mk (st := sIsForm) l3 c3 k3
  have b_is_form := F_is_form.binds (ps := ["thing"]) fun _ _ _ _ _ _ us hl => match us, hl with | [_], _ => rfl
  have F_lies_within := fun_mk (st := sLiesWithin) l4 c4 k4
  have b_lies_within := F_lies_within.binds (ps := ["inner", "outer"]) fun _ _ _ _ _ _ us hl => match us, hl with | [_, _], _ => rfl
  have F_are_forms := fun_mk (st := sAreForms) l5 c5 k5
  have b_are_forms := F_are_forms.binds (ps := ["length", "thing"]) fun _ _ _ _ _ _ us hl => match us, hl with | [_, _], _ => rfl
  have F_unlike := fun_mk (st := sUnlike) l6 c6 k6
  have b_unlike := F_unlike.binds (ps := ["forms"]) fun _ _ _ _ _ _ us hl => match us, hl with | [_], _ => rfl
  have F_limited := fun_mk (st := sLimited) l7 c7 k7
  have b_limited := F_limited.binds (ps := ["family", "forms"]) fun _ _ _ _ _ _ us hl => match us, hl with | [_, _], _ => rfl
  have F_is_entry := fun_mk (st := sIsEntry) l8 c8 k8
  have b_is_entry := F_is_entry.binds (ps := ["thing"]) fun _ _ _ _ _ _ us hl => match us, hl with | [_], _ => rfl
  have F_are_entries := fun_mk (st := sAreEntries) l9 c9 k9
  have b_are_entries := F_are_entries.binds (ps := ["thing"]) fun _ _ _ _ _ _ us hl => match us, hl with | [_], _ => rfl
  have F_are_weights := fun_mk (st := sAreWeights) l10 c10 k10
  have b_are_weights := F_are_weights.binds (ps := ["manner", "thing"]) fun _ _ _ _ _ _ us hl => match us, hl with | [_, _], _ => rfl
  have F_fitting := fun_mk (st := sFitting) l11 c11 k11
  have b_fitting := F_fitting.binds (ps := ["book", "cell"]) fun _ _ _ _ _ _ us hl => match us, hl with | [_, _], _ => rfl
  have F_rank := fun_mk (st := sRank) l12 c12 k12
  have b_rank := F_rank.binds (ps := ["book", "number"]) fun _ _ _ _ _ _ us hl => match us, hl with | [_, _], _ => rfl
  have F_highest := fun_mk (st := sHighest) l13 c13 k13
  have b_highest := F_highest.binds (ps := ["book", "numbers"]) fun _ _ _ _ _ _ us hl => match us, hl with | [_, _], _ => rfl
  have F_speaking := fun_mk (st := sSpeaking) l14 c14 k14
  have b_speaking := F_speaking.binds (ps := ["book", "numbers"]) fun _ _ _ _ _ _ us hl => match us, hl with | [_, _], _ => rfl
  have F_holds_all := fun_mk (st := sHoldsAll) l15 c15 k15
  have b_holds_all := F_holds_all.binds (ps := ["book", "number", "numbers"]) fun _ _ _ _ _ _ us hl => match us, hl with | [_, _, _], _ => rfl
  have F_form_among := fun_mk (st := sFormAmong) l16 c16 k16
  have b_form_among := F_form_among.binds (ps := ["book", "numbers"]) fun _ _ _ _ _ _ us hl => match us, hl with | [_, _], _ => rfl
  have F_form_at := fun_mk (st := sFormAt) l17 c17 k17
  have b_form_at := F_form_at.binds (ps := ["book", "cell"]) fun _ _ _ _ _ _ us hl => match us, hl with | [_, _], _ => rfl
  have F_forms_made := fun_mk (st := sFormsMade) l18 c18 k18
  have b_forms_made := F_forms_made.binds (ps := ["book", "family"]) fun _ _ _ _ _ _ us hl => match us, hl with | [_, _], _ => rfl
  have F_made := fun_mk (st := sMade) l19 c19 k19
  have b_made := F_made.binds (ps := ["book", "family"]) fun _ _ _ _ _ _ us hl => match us, hl with | [_, _], _ => rfl
  have F_makes := fun_mk (st := sMakes) l20 c20 k20
  have b_makes := F_makes.binds (ps := ["book", "table"]) fun _ _ _ _ _ _ us hl => match us, hl with | [_, _], _ => rfl
  have F_are_cells := fun_mk (st := sAreCells) l21 c21 k21
  have b_are_cells := F_are_cells.binds (ps := ["many", "thing"]) fun _ _ _ _ _ _ us hl => match us, hl with | [_, _], _ => rfl
  have F_law_deck := fun_mk (st := sLawDeck) l22 c22 k22
  have b_law_deck := F_law_deck.binds (ps := ["script"]) fun _ _ _ _ _ _ us hl => match us, hl with | [_], _ => rfl
  have F_law_take := fun_mk (st := sLawTake) l23 c23 k23
  have b_law_take := F_law_take.binds (ps := ["deck", "many"]) fun _ _ _ _ _ _ us hl => match us, hl with | [_, _], _ => rfl
  have F_law_mixed := fun_mk (st := sLawMixed) l24 c24 k24
  have b_law_mixed := F_law_mixed.binds (ps := ["deck", "things"]) fun _ _ _ _ _ _ us hl => match us, hl with | [_, _], _ => rfl
  have F_law_word := fun_mk (st := sLawWord) l25 c25 k25
  have b_law_word := F_law_word.binds (ps := ["deck"]) fun _ _ _ _ _ _ us hl => match us, hl with | [_], _ => rfl
  have F_law_words := fun_mk (st := sLawWords) l26 c26 k26
  have b_law_words := F_law_words.binds (ps := ["deck", "most"]) fun _ _ _ _ _ _ us hl => match us, hl with | [_, _], _ => rfl
  have F_law_lots := fun_mk (st := sLawLots) l27 c27 k27
  have b_law_lots := F_law_lots.binds (ps := ["items"]) fun _ _ _ _ _ _ us hl => match us, hl with | [_], _ => rfl
  have F_law_family := fun_mk (st := sLawFamily) l28 c28 k28
  have b_law_family := F_law_family.binds (ps := ["deck"]) fun _ _ _ _ _ _ us hl => match us, hl with | [_], _ => rfl
  have F_law_forms := fun_mk (st := sLawForms) l29 c29 k29
  have b_law_forms := F_law_forms.binds (ps := ["deck", "cells", "words"]) fun _ _ _ _ _ _ us hl => match us, hl with | [_, _, _], _ => rfl
  have F_law_in := fun_mk (st := sLawIn) l30 c30 k30
  have b_law_in := F_law_in.binds (ps := ["one", "other"]) fun _ _ _ _ _ _ us hl => match us, hl with | [_, _], _ => rfl
  have F_law_proper := fun_mk (st := sLawProper) l31 c31 k31
  have b_law_proper := F_law_proper.binds (ps := ["one", "other"]) fun _ _ _ _ _ _ us hl => match us, hl with | [_, _], _ => rfl
  have F_law_marks := fun_mk (st := sLawMarks) l32 c32 k32
  have b_law_marks := F_law_marks.binds (ps := ["deck", "cells"]) fun _ _ _ _ _ _ us hl => match us, hl with | [_, _], _ => rfl
  have F_law_entries := fun_mk (st := sLawEntries) l33 c33 k33
  have b_law_entries := F_law_entries.binds (ps := ["deck", "cells", "words", "most"]) fun _ _ _ _ _ _ us hl => match us, hl with | [_, _, _, _], _ => rfl
  have F_law_weights := fun_mk (st := sLawWeights) l34 c34 k34
  have b_law_weights := F_law_weights.binds (ps := ["deck"]) fun _ _ _ _ _ _ us hl => match us, hl with | [_], _ => rfl
  have F_law_sum := fun_mk (st := sLawSum) l35 c35 k35
  have b_law_sum := F_law_sum.binds (ps := ["weights", "marks"]) fun _ _ _ _ _ _ us hl => match us, hl with | [_, _], _ => rfl
  have F_law_fits := fun_mk (st := sLawFits) l36 c36 k36
  have b_law_fits := F_law_fits.binds (ps := ["entries", "cell"]) fun _ _ _ _ _ _ us hl => match us, hl with | [_, _], _ => rfl
  have F_law_beats := fun_mk (st := sLawBeats) l37 c37 k37
  have b_law_beats := F_law_beats.binds (ps := ["manner", "weights", "one", "other"]) fun _ _ _ _ _ _ us hl => match us, hl with | [_, _, _, _], _ => rfl
  have F_law_speaks := fun_mk (st := sLawSpeaks) l38 c38 k38
  have b_law_speaks := F_law_speaks.binds (ps := ["manner", "entries", "weights", "cell"]) fun _ _ _ _ _ _ us hl => match us, hl with | [_, _, _, _], _ => rfl
  have F_law_form_at := fun_mk (st := sLawFormAt) l39 c39 k39
  have b_law_form_at := F_law_form_at.binds (ps := ["manner", "entries", "weights", "cell"]) fun _ _ _ _ _ _ us hl => match us, hl with | [_, _, _, _], _ => rfl
  have F_law_like := fun_mk (st := sLawLike) l40 c40 k40
  have b_law_like := F_law_like.binds (ps := ["told", "due"]) fun _ _ _ _ _ _ us hl => match us, hl with | [_, _], _ => rfl
  have F_law := fun_mk (st := sLaw) l41 c41 k41
  have b_law := F_law.binds (ps := ["script"]) fun _ _ _ _ _ _ us hl => match us, hl with | [_], _ => rfl
  have F_initC := fun_mk (st := sTableInit) l42 c42 k42
  have b_initC := F_initC.binds (ps := ["self", "family", "forms"]) fun _ _ _ _ _ _ us hl => match us, hl with | [_, _, _], _ => rfl
  have F_initCF := fun_mk (st := sFamilyInit) l43 c43 k43
  have b_initCF := F_initCF.binds (ps := ["self", "many", "cells"]) fun _ _ _ _ _ _ us hl => match us, hl with | [_, _, _], _ => rfl
  have F_initCB := fun_mk (st := sBookInit) l44 c44 k44
  have b_initCB := F_initCB.binds (ps := ["self", "manner", "entries", "weights"]) fun _ _ _ _ _ _ us hl => match us, hl with | [_, _, _, _], _ => rfl
  have F_famEq := fun_mk (st := sFamilyEq) l45 c45 k45
  have b_famEq := F_famEq.binds (ps := ["self", "other"]) fun _ _ _ _ _ _ us hl => match us, hl with | [_, _], _ => rfl
  refine ⟨PySem.W.fnOf "law" "law" (defArgs sLaw) (defBody sLaw) (defScope sLaw) .none kV41 dc41 pm41 an41 cd41 ct41, fun s v => .of_eq rfl, fun base _ _ => ?_⟩
  have HT : Has l.prog w K mg base "_law_take" ["deck", "many"] 1 spTake := ⟨f23, _, ok_take F_law_take T, PySem.W.mg_of X G a23, k23, b_law_take⟩
  have HD : Has l.prog w K mg base "_law_deck" ["script"] 1 (spDeck K) := ⟨f22, _, ok_deck F_law_deck T, PySem.W.mg_of X G a22, k22, b_law_deck⟩
  have HM : Has l.prog w K mg base "_law_mixed" ["deck", "things"] 2 (spMixed K) := ⟨f24, _, ok_mixed F_law_mixed T HT, PySem.W.mg_of X G a24, k24, b_law_mixed⟩
  have HWd : Has l.prog w K mg base "_law_word" ["deck"] 2 spWord := ⟨f25, _, ok_word F_law_word T HT, PySem.W.mg_of X G a25, k25, b_law_word⟩
  have HWs : Has l.prog w K mg base "_law_words" ["deck", "most"] 3 spWords := ⟨f26, _, ok_words F_law_words T HT HWd, PySem.W.mg_of X G a26, k26, b_law_words⟩
  have HL : Has l.prog w K mg base "_law_lots" ["items"] 1 (spLots K) := ⟨f27, _, ok_lots F_law_lots, PySem.W.mg_of X G a27, k27, b_law_lots⟩
  have HFa : Has l.prog w K mg base "_law_family" ["deck"] 3 spFamily := ⟨f28, _, ok_family F_law_family T HT HL HM, PySem.W.mg_of X G a28, k28, b_law_family⟩
  have HFo : Has l.prog w K mg base "_law_forms" ["deck", "cells", "words"] 2 spForms := ⟨f29, _, ok_forms F_law_forms T HT, PySem.W.mg_of X G a29, k29, b_law_forms⟩
  have HIn : Has l.prog w K mg base "_law_in" ["one", "other"] 1 spIn := ⟨f30, _, ok_in F_law_in T, PySem.W.mg_of X G a30, k30, b_law_in⟩
  have HMk : Has l.prog w K mg base "_law_marks" ["deck", "cells"] 2 (spMarks K) := ⟨f32, _, ok_marks F_law_marks T HT, PySem.W.mg_of X G a32, k32, b_law_marks⟩
  have HEn : Has l.prog w K mg base "_law_entries" ["deck", "cells", "words", "most"] 3 (spEntries K) := ⟨f33, _, ok_entries F_law_entries T HT HMk, PySem.W.mg_of X G a33, k33, b_law_entries⟩
  have HWt : Has l.prog w K mg base "_law_weights" ["deck"] 2 spWeights := ⟨f34, _, ok_weightsL F_law_weights T HT, PySem.W.mg_of X G a34, k34, b_law_weights⟩
  have HFt : Has l.prog w K mg base "_law_fits" ["entries", "cell"] 2 (spFits K) := ⟨f36, _, ok_fits F_law_fits T HIn, PySem.W.mg_of X G a36, k36, b_law_fits⟩
  have HPr : Has l.prog w K mg base "_law_proper" ["one", "other"] 2 spProper := ⟨f31, _, ok_proper F_law_proper T HIn, PySem.W.mg_of X G a31, k31, b_law_proper⟩
  have HSu : Has l.prog w K mg base "_law_sum" ["weights", "marks"] 1 spSum := ⟨f35, _, ok_sum F_law_sum T, PySem.W.mg_of X G a35, k35, b_law_sum⟩
  have HBe : Has l.prog w K mg base "_law_beats" ["manner", "weights", "one", "other"] 3 spBeats := ⟨f37, _, ok_beats F_law_beats T HPr HSu, PySem.W.mg_of X G a37, k37, b_law_beats⟩
  have HLS : Has l.prog w K mg base "_law_speaks" ["manner", "entries", "weights", "cell"] 4 (spLawWho K) := ⟨f38, _, ok_lawWho (ok_speaks F_law_speaks T HFt HBe) (ok_speaksRow F_law_speaks T HFt), PySem.W.mg_of X G a38, k38, b_law_speaks⟩
  have HLF : Has l.prog w K mg base "_law_form_at" ["manner", "entries", "weights", "cell"] 5 (spLawHeard K) := ⟨f39, _, ok_lawFormAt F_law_form_at HLS, PySem.W.mg_of X G a39, k39, b_law_form_at⟩
  have HL0 : Has l.prog w K mg base "_law_like" ["told", "due"] 1 spLikeA := ⟨f40, _, ok_likeA F_law_like T, PySem.W.mg_of X G a40, k40, b_law_like⟩
  have HLk : Has l.prog w K mg base "_law_like" ["told", "due"] 2 (fun vs H Q E => spLikeA vs H Q E ∨ spLikeB vs H Q E) := ⟨f40, _, ok_both ((ok_likeA F_law_like T).mono (by decide)) (ok_likeB F_law_like T HL0), PySem.W.mg_of X G a40, k40, b_law_like⟩
  have HI : Has l.prog w K mg base "is_integer" ["thing"] 1 spIsInteger := ⟨f0, _, ok_integer F_is_integer T, PySem.W.mg_of X G a0, k0, b_is_integer⟩
  have HB : Has l.prog w K mg base "is_between" ["low", "high", "thing"] 2 spBetween := ⟨f1, _, ok_between F_is_between HI, PySem.W.mg_of X G a1, k1, b_is_between⟩
  have HCe : Has l.prog w K mg base "is_cell" ["many", "thing"] 3 spIsCell := ⟨f2, _, ok_cell F_is_cell T HB, PySem.W.mg_of X G a2, k2, b_is_cell⟩
  have HF : Has l.prog w K mg base "is_form" ["thing"] 1 spIsForm := ⟨f3, _, ok_form F_is_form T cF, PySem.W.mg_of X G a3, k3, b_is_form⟩
  have HLi : Has l.prog w K mg base "lies_within" ["inner", "outer"] 1 spLies := ⟨f4, _, ok_lies F_lies_within, PySem.W.mg_of X G a4, k4, b_lies_within⟩
  have HU : Has l.prog w K mg base "_unlike" ["forms"] 1 spUnlike := ⟨f6, _, ok_unlike F_unlike T, PySem.W.mg_of X G a6, k6, b_unlike⟩
  have HAf : Has l.prog w K mg base "_are_forms" ["length", "thing"] 2 spAreForms := ⟨f5, _, ok_areForms F_are_forms T cT HF HU, PySem.W.mg_of X G a5, k5, b_are_forms⟩
  have HAc : Has l.prog w K mg base "_are_cells" ["many", "thing"] 4 spAreCells := ⟨f21, _, ok_areCells F_are_cells T T.set cM HCe, PySem.W.mg_of X G a21, k21, b_are_cells⟩
  have HFm : HasC l.prog w K mg base "Family" CF ["self", "many", "cells"] 5 (spFam CF) := ⟨f43, _, ok_fam F_initCF T cM FT HB HAc, ⟨mkCCF, a43, i43, kcCCF⟩, PySem.W.mg_of X G aCCF, b_initCF⟩
  have HTb : HasC l.prog w K mg base "Table" C ["self", "family", "forms"] 3 (spTab CF C) := ⟨f42, _, ok_table F_initC T TT FT HAf, ⟨mkCC, a42, i42, kcCC⟩, PySem.W.mg_of X G aCC, b_initC⟩
  have HE : Has l.prog w K mg base "is_entry" ["thing"] 4 spIsEntry := ⟨f8, _, ok_entry F_is_entry T cB HCe HF, PySem.W.mg_of X G a8, k8, b_is_entry⟩
  have HAe : Has l.prog w K mg base "_are_entries" ["thing"] 5 spAreEntries := ⟨f9, _, ok_are F_are_entries T cB HE, PySem.W.mg_of X G a9, k9, b_are_entries⟩
  have HWe : Has l.prog w K mg base "_are_weights" ["manner", "thing"] 3 spAreWeights := ⟨f10, _, ok_weights F_are_weights T cB HB, PySem.W.mg_of X G a10, k10, b_are_weights⟩
  have HBk : HasC l.prog w K mg base "Book" CB ["self", "manner", "entries", "weights"] 6 (spBook CB) := ⟨f44, _, ok_book F_initCB T BT HAe HWe, ⟨mkCCB, a44, i44, kcCCB⟩, PySem.W.mg_of X G aCCB, b_initCB⟩
  have HFi : Has l.prog w K mg base "fitting" ["book", "cell"] 4 (spFitting CB) := ⟨f11, _, ok_fitting F_fitting T cB BT HCe HLi, PySem.W.mg_of X G a11, k11, b_fitting⟩
  have HRk : Has l.prog w K mg base "rank" ["book", "number"] 1 (spRank CB) := ⟨f12, _, ok_rank F_rank T BT, PySem.W.mg_of X G a12, k12, b_rank⟩
  have HHi : Has l.prog w K mg base "_highest" ["book", "numbers"] 2 (spHighest CB) := ⟨f13, _, ok_highest F_highest T HRk, PySem.W.mg_of X G a13, k13, b_highest⟩
  have HHo : Has l.prog w K mg base "_holds_all" ["book", "number", "numbers"] 2 (spHolds CB) := ⟨f15, _, ok_holds F_holds_all T BT HLi, PySem.W.mg_of X G a15, k15, b_holds_all⟩
  have HSp : Has l.prog w K mg base "speaking" ["book", "numbers"] 3 (spWho CB) := ⟨f14, _, ok_who (ok_speaking F_speaking T BT HHi HHo) (ok_speakingRow F_speaking BT), PySem.W.mg_of X G a14, k14, b_speaking⟩
  have HAm : Has l.prog w K mg base "form_among" ["book", "numbers"] 4 (spHeardN CB) := ⟨f16, _, ok_among F_form_among BT HSp, PySem.W.mg_of X G a16, k16, b_form_among⟩
  have HFA : Has l.prog w K mg base "_form_at" ["book", "cell"] 5 (spHeard CB) := ⟨f17, _, ok_formAt F_form_at HFi HAm, PySem.W.mg_of X G a17, k17, b_form_at⟩
  have HLm : Has l.prog w K mg base "limited" ["family", "forms"] 5 (spLimited CF C) := ⟨f7, _, ok_limited F_limited T cT HU HTb, PySem.W.mg_of X G a7, k7, b_limited⟩
  have HFM : Has l.prog w K mg base "forms_made" ["book", "family"] 6 (spFormsMade CF CB) := ⟨f18, _, ok_formsMade F_forms_made T FT HFA, PySem.W.mg_of X G a18, k18, b_forms_made⟩
  have HMa : Has l.prog w K mg base "made" ["book", "family"] 7 (spMade CF C CB) := ⟨f19, _, ok_made F_made T HFM HLm, PySem.W.mg_of X G a19, k19, b_made⟩
  have HMs : Has l.prog w K mg base "makes" ["book", "table"] 6 (spMakes CF C CB) := ⟨f20, _, ok_makes F_makes T FT TT HFA, PySem.W.mg_of X G a20, k20, b_makes⟩
  have HEq : HasE l.prog w K mg base CF 1 (FamSame CF) := ⟨f45, _, ok_famEq F_famEq T FT CTf, a45, i45, b_famEq⟩
  exact ok_law F_law T TT CTt HD HT HFa HWs HEn HWt HFo HLF HLk HMa HMs HEq HFm HTb HBk
theorem walk {l : PySem.W.OpenLaw} {q : Program} {loose : List Str} {XP : (Str → Option Value) → Heap → Prop} {YP : World → Heap → Prop} {d : DefRec} {K : Params → PySem.W.Frag} (hn : l.most = some 63) (hdf : d.params.defaults = [])
    (hY : ∀ (w : World) (h : Heap), YP w h → (K w.params).In h)
    (F : ∀ (w : World) (mg : Str → Option Value) (fa : Addr) (h : Heap), (K w.params).In h → h.Ns mainGlobals mg → mg d.name = some (.ref fa) →
      ∃ fd : FuncData, (∀ (s : Shared) (u : Value), BindsTo s fd ⟨[u], []⟩ [("script", u)]) ∧ ∀ base : Heap, (K w.params).In base → base.Ns mainGlobals mg → FnOk l.prog w (K w.params) mg base CX0 8 fa fd ["script"] (spLaw (K w.params))) :
    PySem.W.WalkO q loose XP YP l.row.toRowW d [] (fun f vs => PySem.call f vs) :=
  L2.walk_of (n := 63) (k := 8) (x := "script") (CX := fun _ => CX0) (sp := fun w => spLaw (K w.params)) hn (by decide) hdf ⟨rfl, by decide, by decide⟩ hY F (fun _ _ a ns hl _ hS => ⟨a, ns, rfl, hS, hl, fun _ => rfl⟩) fun _ _ _ _ _ z => z
end Xci
open PySem PySem.W PyProof.Rows in
set_option maxRecDepth 100000 in
set_option maxHeartbeats 0 in
theorem PySem.Challenge.cw_sameforms_k15_whole_tables_made_holds : PySem.Challenge.rw_sameforms_k15_whole_tables_made.Holds := by
  w_on; o_law; k_head; (case hw => w_witness2)
  k_fill
  refine Xci.walk (l := PySem.Challenge.rw_sameforms_k15_whole_tables_made) rfl rfl (fun w h Y => PySem.W.kIn_of Y) ?F
  case F =>
    intro w mg fa h KX G hmg
    refine' Xci.all_mk KX G hmg ?a0 ?l0 ?c0 ?k0 ?a1 ?l1 ?c1 ?k1 ?a2 ?l2 ?c2 ?k2 ?a3 ?l3 ?c3 ?k3 ?a4 ?l4 ?c4 ?k4 ?a5 ?l5 ?c5 ?k5 ?a6 ?l6 ?c6 ?k6 ?a7 ?l7 ?c7 ?k7 ?a8 ?l8 ?c8 ?k8 ?a9 ?l9 ?c9 ?k9 ?a10 ?l10 ?c10 ?k10 ?a11 ?l11 ?c11 ?k11 ?a12 ?l12 ?c12 ?k12 ?a13 ?l13 ?c13 ?k13 ?a14 ?l14 ?c14 ?k14 ?a15 ?l15 ?c15 ?k15 ?a16 ?l16 ?c16 ?k16 ?a17 ?l17 ?c17 ?k17 ?a18 ?l18 ?c18 ?k18 ?a19 ?l19 ?c19 ?k19 ?a20 ?l20 ?c20 ?k20 ?a21 ?l21 ?c21 ?k21 ?a22 ?l22 ?c22 ?k22 ?a23 ?l23 ?c23 ?k23 ?a24 ?l24 ?c24 ?k24 ?a25 ?l25 ?c25 ?k25 ?a26 ?l26 ?c26 ?k26 ?a27 ?l27 ?c27 ?k27 ?a28 ?l28 ?c28 ?k28 ?a29 ?l29 ?c29 ?k29 ?a30 ?l30 ?c30 ?k30 ?a31 ?l31 ?c31 ?k31 ?a32 ?l32 ?c32 ?k32 ?a33 ?l33 ?c33 ?k33 ?a34 ?l34 ?c34 ?k34 ?a35 ?l35 ?c35 ?k35 ?a36 ?l36 ?c36 ?k36 ?a37 ?l37 ?c37 ?k37 ?a38 ?l38 ?c38 ?k38 ?a39 ?l39 ?c39 ?k39 ?a40 ?l40 ?c40 ?k40 ?a41 ?l41 ?c41 ?k41 ?a42 ?i42 ?l42 ?c42 ?k42 ?aCC ?pgCC ?hdCC ?poCC ?saCC ?mkCC ?kcCC ?nC_family ?nC_forms ?a43 ?i43 ?l43 ?c43 ?k43 ?aCCF ?pgCCF ?hdCCF ?poCCF ?saCCF ?mkCCF ?kcCCF ?nCF_many ?nCF_cells ?a44 ?i44 ?l44 ?c44 ?k44 ?aCCB ?pgCCB ?hdCCB ?poCCB ?saCCB ?mkCCB ?kcCCB ?nCB_manner ?nCB_entries ?nCB_weights ?a45 ?i45 ?l45 ?c45 ?k45 ?hAC ?hMC ?hACF ?hMCF ?hN ?hT ?z_len ?z_int ?z_abs ?z_list ?z_tuple ?z_range ?z_min ?z_isinstance ?z_enumerate ?z_bool ?z_str ?z_all ?z_any ?z_sum ?z_max ?z_sorted ?z_zip ?z_set ?g_LONGEST_FORM ?g_MOST_FORMS ?g_MOST_MARKS ?g_MOST_CELLS ?g_MARKS ?g_MOST_ENTRIES ?g_MOST_WEIGHT ?aM0 ?lM
    (case aCC => k_is)
    (case aCCF => k_is)
    (case aCCB => k_is)
    (case aM0 => k_is)
    (case a0 => k_is)
    (case l0 => k_is)
    (case c0 => k_is)
    (case k0 => k_is)
    (case a1 => k_is)
    (case l1 => k_is)
    (case c1 => k_is)
    (case k1 => k_is)
    (case a2 => k_is)
    (case l2 => k_is)
    (case c2 => k_is)
    (case k2 => k_is)
    (case a3 => k_is)
    (case l3 => k_is)
    (case c3 => k_is)
    (case k3 => k_is)
    (case a4 => k_is)
    (case l4 => k_is)
    (case c4 => k_is)
    (case k4 => k_is)
    (case a5 => k_is)
    (case l5 => k_is)
    (case c5 => k_is)
    (case k5 => k_is)
    (case a6 => k_is)
    (case l6 => k_is)
    (case c6 => k_is)
    (case k6 => k_is)
    (case a7 => k_is)
    (case l7 => k_is)
    (case c7 => k_is)
    (case k7 => k_is)
    (case a8 => k_is)
    (case l8 => k_is)
    (case c8 => k_is)
    (case k8 => k_is)
    (case a9 => k_is)
    (case l9 => k_is)
    (case c9 => k_is)
    (case k9 => k_is)
    (case a10 => k_is)
    (case l10 => k_is)
    (case c10 => k_is)
    (case k10 => k_is)
    (case a11 => k_is)
    (case l11 => k_is)
    (case c11 => k_is)
    (case k11 => k_is)
    (case a12 => k_is)
    (case l12 => k_is)
    (case c12 => k_is)
    (case k12 => k_is)
    (case a13 => k_is)
    (case l13 => k_is)
    (case c13 => k_is)
    (case k13 => k_is)
    (case a14 => k_is)
    (case l14 => k_is)
    (case c14 => k_is)
    (case k14 => k_is)
    (case a15 => k_is)
    (case l15 => k_is)
    (case c15 => k_is)
    (case k15 => k_is)
    (case a16 => k_is)
    (case l16 => k_is)
    (case c16 => k_is)
    (case k16 => k_is)
    (case a17 => k_is)
    (case l17 => k_is)
    (case c17 => k_is)
    (case k17 => k_is)
    (case a18 => k_is)
    (case l18 => k_is)
    (case c18 => k_is)
    (case k18 => k_is)
    (case a19 => k_is)
    (case l19 => k_is)
    (case c19 => k_is)
    (case k19 => k_is)
    (case a20 => k_is)
    (case l20 => k_is)
    (case c20 => k_is)
    (case k20 => k_is)
    (case a21 => k_is)
    (case l21 => k_is)
    (case c21 => k_is)
    (case k21 => k_is)
    (case a22 => k_is)
    (case l22 => k_is)
    (case c22 => k_is)
    (case k22 => k_is)
    (case a23 => k_is)
    (case l23 => k_is)
    (case c23 => k_is)
    (case k23 => k_is)
    (case a24 => k_is)
    (case l24 => k_is)
    (case c24 => k_is)
    (case k24 => k_is)
    (case a25 => k_is)
    (case l25 => k_is)
    (case c25 => k_is)
    (case k25 => k_is)
    (case a26 => k_is)
    (case l26 => k_is)
    (case c26 => k_is)
    (case k26 => k_is)
    (case a27 => k_is)
    (case l27 => k_is)
    (case c27 => k_is)
    (case k27 => k_is)
    (case a28 => k_is)
    (case l28 => k_is)
    (case c28 => k_is)
    (case k28 => k_is)
    (case a29 => k_is)
    (case l29 => k_is)
    (case c29 => k_is)
    (case k29 => k_is)
    (case a30 => k_is)
    (case l30 => k_is)
    (case c30 => k_is)
    (case k30 => k_is)
    (case a31 => k_is)
    (case l31 => k_is)
    (case c31 => k_is)
    (case k31 => k_is)
    (case a32 => k_is)
    (case l32 => k_is)
    (case c32 => k_is)
    (case k32 => k_is)
    (case a33 => k_is)
    (case l33 => k_is)
    (case c33 => k_is)
    (case k33 => k_is)
    (case a34 => k_is)
    (case l34 => k_is)
    (case c34 => k_is)
    (case k34 => k_is)
    (case a35 => k_is)
    (case l35 => k_is)
    (case c35 => k_is)
    (case k35 => k_is)
    (case a36 => k_is)
    (case l36 => k_is)
    (case c36 => k_is)
    (case k36 => k_is)
    (case a37 => k_is)
    (case l37 => k_is)
    (case c37 => k_is)
    (case k37 => k_is)
    (case a38 => k_is)
    (case l38 => k_is)
    (case c38 => k_is)
    (case k38 => k_is)
    (case a39 => k_is)
    (case l39 => k_is)
    (case c39 => k_is)
    (case k39 => k_is)
    (case a40 => k_is)
    (case l40 => k_is)
    (case c40 => k_is)
    (case k40 => k_is)
    (case a41 => k_is)
    (case l41 => k_is)
    (case c41 => k_is)
    (case k41 => k_is)
    (case a42 => k_is)
    (case i42 => k_is)
    (case l42 => k_is)
    (case c42 => k_is)
    (case k42 => k_is)
    (case pgCC => k_is)
    (case hdCC => k_is)
    (case poCC => k_is)
    (case saCC => k_is)
    (case mkCC => k_is)
    (case kcCC => k_is)
    (case nC_family => k_is)
    (case nC_forms => k_is)
    (case a43 => k_is)
    (case i43 => k_is)
    (case l43 => k_is)
    (case c43 => k_is)
    (case k43 => k_is)
    (case pgCCF => k_is)
    (case hdCCF => k_is)
    (case poCCF => k_is)
    (case saCCF => k_is)
    (case mkCCF => k_is)
    (case kcCCF => k_is)
    (case nCF_many => k_is)
    (case nCF_cells => k_is)
    (case a44 => k_is)
    (case i44 => k_is)
    (case l44 => k_is)
    (case c44 => k_is)
    (case k44 => k_is)
    (case pgCCB => k_is)
    (case hdCCB => k_is)
    (case poCCB => k_is)
    (case saCCB => k_is)
    (case mkCCB => k_is)
    (case kcCCB => k_is)
    (case nCB_manner => k_is)
    (case nCB_entries => k_is)
    (case nCB_weights => k_is)
    (case a45 => k_is)
    (case i45 => k_is)
    (case l45 => k_is)
    (case c45 => k_is)
    (case k45 => k_is)
    (case hAC => k_is)
    (case hMC => k_is)
    (case hACF => k_is)
    (case hMCF => k_is)
    (case hN => k_is)
    (case hT => k_is)
    (case z_len => k_is)
    (case z_int => k_is)
    (case z_abs => k_is)
    (case z_list => k_is)
    (case z_tuple => k_is)
    (case z_range => k_is)
    (case z_min => k_is)
    (case z_isinstance => k_is)
    (case z_enumerate => k_is)
    (case z_bool => k_is)
    (case z_str => k_is)
    (case z_all => k_is)
    (case z_any => k_is)
    (case z_sum => k_is)
    (case z_max => k_is)
    (case z_sorted => k_is)
    (case z_zip => k_is)
    (case z_set => k_is)
    (case g_LONGEST_FORM => k_is)
    (case g_MOST_FORMS => k_is)
    (case g_MOST_MARKS => k_is)
    (case g_MOST_CELLS => k_is)
    (case g_MARKS => k_is)
    (case g_MOST_ENTRIES => k_is)
    (case g_MOST_WEIGHT => k_is)
    (case lM => k_is)
