import PyProof.Rows.All
import Wide.All
import OpenK.AllK
import Wide.FinOn
import HandS.ForMost
import KE.GoesEnum
import HandS.Codes
import HandS.IsInst
import HandS.Zip
import HandS.TupAny
import HandS.Deep
import HandS.TupSets
import HandS.Conv
import HandS.Walk
import HandS.SortInts
import HandS.TupMul
import KE.GoesZip
import HandS.SetFor
import HandS.Comp
import HandS.Set
import HandS.SetKeys
import HandS.SetBool
import PyProof.Rows.SortShellAny
import PyProof.Rows.SortStr
import HandS.NamedTupSort
import HandS.TryOnly
import HandS.OwnEq
import HandS.TupLe
import HandS.ExcInit
import HandS.Nested
import HandS.ExcOwn
import HandS.WordsExc
import HandS.ExcField
import HandS.ExcIs
import KE.KExcSuper
import KE.KSuper
import KE.RegKSuper
import PyProof.ReprBulk
import HandS.Style
import HandS.Star
import KE.KExcIs
import KE.SortData
import PySem.Challenge.RW_sameforms_k17_questions_of_books_refused
set_option Elab.async false
set_option linter.all false
set_option maxRecDepth 100000
namespace Xci
open PySem PySem.Spec PyProof.Rows L2
/-- what a tuple's walk begins with, and what counts it -/
def tupleWalkO (t : Addr) : Obj := { cls := .type "tuple_iterator", data := .fields #[.ref t, .int 0 0] }
def countO (walk : Addr) : Obj := { cls := .type "enumerate", data := .fields #[.none, .bool false, .ref walk, rawInt 0, .none, .none] }
abbrev counted (h : Heap) (t : Addr) : Heap := (h.push (tupleWalkO t)).push (countO h.objs.size)
theorem counted_kept {h : Heap} {t b : Addr} {o : Obj} (q : h.get? b = some o) : (counted h t).get? b = some o :=
  Heap.get?_push_of_some _ (Heap.get?_push_of_some _ q)
theorem counted_walk {h : Heap} {t : Addr} : (counted h t).IsTupleIter h.objs.size t 0 :=
  ⟨tupleWalkO t, Heap.get?_push_of_some _ (Heap.get?_push_size _ rfl), rfl, rfl⟩
theorem counted_at {h : Heap} {t : Addr} : IsEnum (counted h t) (h.objs.size + 1) h.objs.size 0 .none := by
  have q : (counted h t).get? (h.push (tupleWalkO t)).objs.size = some (countO h.objs.size) := Heap.get?_push_size _ rfl
  rw [Heap.size_push] at q
  exact q
set_option maxHeartbeats 1000000 in
theorem count_new (t : Addr) (items : Array Value) : Meets (Builtin.«enumerate.__new__» ⟨[.type "enumerate", .ref t], []⟩)
    (fun _ R s => s.heap.IsTuple t items ∧ R (.ok (.ret (.ref (s.heap.push (tupleWalkO t)).objs.size))) { s with heap := counted s.heap t }) :=
  .of_wp fun prog w A R s hs => by
    cases s
    have known := sub_enumerate
    have walk := fun {A' : Around} {E : Value → Shared → Prop} {Q : Value → Shared → Prop} (q : Q _ _) => (begins_tuple t items).iter prog w A' E _ Q hs.1 q
    wp_walk using walk
    refine wpAny_stack_any fun st => wpAny_pure ?_
    split
    case h_1 c _ _ _ _ _ => cases (c == Value.type "enumerate") <;> (wp_walk using walk; exact ⟨_, rfl, hs.2⟩)
    all_goals (wp_walk using walk; exact ⟨_, rfl, hs.2⟩)
theorem call_count {P : Program} {w : World} {A : Around} {E : Value → Shared → Prop} {s : Shared} {t : Addr} {items : Array Value} {Q : Value → Shared → Prop} (p : s.heap.IsTuple t items)
    (q : Q (.ref (s.heap.objs.size + 1)) { s with heap := counted s.heap t }) : wpAny (model P w) A (call (.type "enumerate") [.ref t]) Q E s := by
  refine callType_new F.called_enumerate (by decide) (F.typeCall_enumerate_1 _) (F.newCall_enumerate_1 _) (F.args_object_init_2 · _) F.entry_enumerate_new (count_new t items) ⟨p, ?_⟩
  rw [Heap.size_push]
  exact ⟨⟨_, counted_at, rfl⟩, q⟩
/-- item by item through the tuple at a, each told with its number in a new pair -/
def IteT (K : PySem.W.Frag) (a : Addr) : It where
  go i H := ∃ (xs : List V) (x : V), SqT K H a xs ∧ xs[i]? = some x
  yld i H v H' := ∃ T x, v = .ref T ∧ H T = none ∧ H' = upd H T (.tup [.int (i : Nat), x]) ∧ ∀ xs, SqT K H a xs → xs[i]? = some x
  stop i H := ∃ xs : List V, SqT K H a xs ∧ xs.length = i
/-- the walk stands ahead of number i -/
def StandsT (a e it : Addr) (i : Nat) (h : Heap) : Prop := (∃ old, IsEnum h e it (i : Int) old) ∧ h.IsTupleIter it a i
theorem turn_enumT {P : Program} {w : World} {K : PySem.W.Frag} {elts : List Expr} {kk : Nat} {tpos : Pos} {a e it : Addr} (h1 : a ≠ it) (h2 : a ≠ e) (h3 : e ≠ it) :
    Turn P w K (.Tuple elts kk tpos) (IteT K a) [e, it] e (StandsT a e it) where
  mem := List.mem_cons_self
  self A i s Q E st q := by
    obtain ⟨⟨_, at0⟩, _⟩ := st
    exact wpAny_pyIter_enum at0 q
  keep i h h' st k := by
    obtain ⟨⟨v, at0⟩, at1⟩ := st
    exact ⟨⟨v, k e List.mem_cons_self _ at0⟩, at1.at fun o => k it (List.mem_cons_of_mem _ List.mem_cons_self) o⟩
  obj i h st b hb := by
    obtain ⟨⟨_, at0⟩, o, at1, _, dat⟩ := st
    rcases List.mem_cons.mp hb with rfl | hb
    · exact ⟨_, at0, nofun⟩
    · cases List.mem_singleton.mp hb
      exact ⟨o, at1, fun v z => nomatch dat.symm.trans z⟩
  item X eP eW eK calm i pins s σ H E I free st now := by
    subst eP; subst eW; subst eK
    obtain ⟨xs, x, sq, hx⟩ := now
    obtain ⟨its, vals, tup, _⟩ := I.tuple sq
    obtain ⟨u, hu, ru⟩ := vals.get hx
    have W := WalksT.enumerateD (Draws.tuple (prog := X.prog) (w := X.w) (A := X.A.in1) (show X.A.in1.handled = none from I.ok.hd calm) it a h1 its.toArray) e h3
      (fun z => (List.mem_cons.mp z).elim h3 fun z => h2 (List.mem_singleton.mp z).symm) List.mem_cons_self
    refine W.item i s _ E (by rw [List.size_toArray]; exact (List.getElem?_eq_some_iff.mp hu).1) ⟨st.1, st.2, tup⟩ fun T row h' tk told hT rowT mid kept => ⟨_, rfl, W.go elts kk tpos i T _ _ E mid fun h'' st' kept' => ?_⟩
    obtain ⟨t, y, hy, rfl⟩ := told
    obtain rfl : y = u := Option.some.inj (hy.symm.trans (by rw [List.getElem?_toArray]; exact hu))
    have out := W.apart i T h' mid
    have row'' : h''.IsTuple T #[.int (i : Int) t, y] := rowT.at fun o => kept' T o out
    have J := I.turnedNew (t' := tk) (fun b o nb q => kept' b o nb (kept b o nb q)) free hT (ob := .tup [.int (i : Int), x]) ⟨by show 2 ≤ sizeLine; decide, _, .cons ⟨t, rfl⟩ (.cons ru .nil), row''⟩
    refine ⟨.ref T, _, J, rfl, ⟨T, x, rfl, I.hok.fresh hT, rfl, fun ys sq' => I.tuple_inj sq' sq ▸ hx⟩, ⟨?_, st'.2.1⟩, fun b hb => ?_⟩
    · obtain ⟨⟨v, z⟩, _⟩ := st'
      exact ⟨v, z⟩
    · rw [upd_ne fun z : b = T => out (z ▸ hb)]
      exact (free b hb).1
  done X eP eW eK calm i pins s σ H E I free st now := by
    subst eP; subst eW; subst eK
    obtain ⟨xs, sq, rfl⟩ := now
    obtain ⟨its, vals, tup, _⟩ := I.tuple sq
    obtain ⟨⟨v, at0⟩, at1⟩ := st
    rw [vals.length, ← List.size_toArray] at at0 at1
    obtain ⟨n, l, c1, c2, c3, c4⟩ := free it (List.mem_cons_of_mem _ List.mem_cons_self)
    exact wpAny_pyNext_enum_endD (Draws.tuple (prog := X.prog) (w := X.w) (A := X.A.in1) (show X.A.in1.handled = none from I.ok.hd calm) it a h1 its.toArray) at0 ⟨at1, tup⟩ fun h' k => ⟨rfl, I.turned (t' := s.toks) k n l c2 c3 c4⟩
/-- enumerate(a tuple) -/
def iEnumT (K : PySem.W.Frag) (ta : TA) : TI := fun σ H R => ta σ H fun vs H1 => ∃ a xs, vs = [.ref a] ∧ SqT K H1 a xs ∧ R (IteT K a) H1
theorem pi_enumT {X : Cx} {e : Expr} {ta : TA} {p pos tpos : Pos} {elts : List Expr} {kk : Nat} (hg : Gl X "enumerate") (hm : X.mg "enumerate" = none) (ha : PA X [e] ta) (hs : starEach [e] X.env = [(false, eval e X.env)] := by rfl) :
    PI X (.Tuple elts kk tpos) (.Call (.Name "enumerate" p) [e] [] pos) (iEnumT X.K ta) where
  run pins s σ H R I h := Call_ (ld_blt I hg hm boot_enumerate (PyProof.Rows.callWith_type1 (thn (ha.run pos pins s σ H _ I h) fun us s1 ⟨vs, H1, I1, rs, a, xs, one, sq, q⟩ => by
    subst one
    rw [Vals.ref1 rs]
    obtain ⟨its, _, tup, _⟩ := I1.tuple sq
    obtain ⟨o, lo, _⟩ := id tup
    have la := Heap.lt_size lo
    refine call_count tup (wpAny_pyIter_enum counted_at ⟨s1.heap.objs.size + 1, [s1.heap.objs.size + 1, s1.heap.objs.size], StandsT a _ _, _, H1, rfl, I1.kept (t' := s1.toks) fun _ _ => counted_kept,
      turn_enumT (Nat.ne_of_lt la) (Nat.ne_of_lt (Nat.lt_succ_of_lt la)) (Nat.succ_ne_self _), ⟨⟨_, counted_at⟩, counted_walk⟩, fun b hb => ?_, q⟩)
    have lb : s1.heap.objs.size ≤ b := (List.mem_cons.mp hb).elim (fun z => z ▸ Nat.le_succ _) fun z => (List.mem_singleton.mp z) ▸ Nat.le_refl _
    exact I1.fpOk lb (I1.hok.fresh lb)) hs rfl))
end Xci

namespace Xci
open PySem PySem.Spec PyProof.Rows L2
section
variable {P : Program} {w : World} {K : PySem.W.Frag} {mg : Str → Option Value} {base : Heap}
/-- what stands under the name x keeps the promise sp -/
structure Has (P : Program) (w : World) (K : PySem.W.Frag) (mg : Str → Option Value) (base : Heap) (x : Str) (ps : List Str) (k : Nat) (sp : Sp) : Prop where
  ex : ∃ (f : Addr) (fd : FuncData), FnOk P w K mg base CX0 k f fd ps sp ∧ mg x = some (.ref f) ∧ PySem.W.keepIn K (.ref f) = true ∧ Binds K fd ps []
end
theorem pe_callH {X : Cx} {x : Str} {ps : List Str} {k : Nat} {sp : Sp} {e : Expr} {es : List Expr} {t : TA} {p pos : Pos} (h : Has X.prog X.w X.K X.mg X.base x ps k sp) (hr : Room k X.A) (hg : Gl X x)
    (ha : PA X (e :: es) t) (hdb : (x == ("__debug__" : Str)) = false := by decide) (he : starEach (e :: es) X.env = (false, eval e X.env) :: starEach es X.env := by rfl) (hpl : (backTo pos (starEach es X.env)).any (·.1) = false := by rfl) :
    PE X (.Call (.Name x p) (e :: es) [] pos) (tCall sp [] E0 t) := by
  obtain ⟨f, fd, F, m, kp, b⟩ := h.ex
  exact pe_call F hr hg m kp b .nil pass0 ha hdb he hpl
/-- the class that stands under the name x, its __init__ keeping the promise sp -/
structure HasC (P : Program) (w : World) (K : PySem.W.Frag) (mg : Str → Option Value) (base : Heap) (x : Str) (C : Addr) (ps : List Str) (k : Nat) (sp : Sp) : Prop where
  ex : ∃ (f : Addr) (fd : FuncData), FnOk P w K mg base CX0 k f fd ps sp ∧ L2.Mk K C f ∧ mg x = some (.ref C) ∧ Binds K fd ps []
theorem pe_makeH {X : Cx} {x : Str} {C : Addr} {ps : List Str} {k : Nat} {sp : Sp} {e : Expr} {es : List Expr} {t : TA} {p pos : Pos} (h : HasC X.prog X.w X.K X.mg X.base x C ps k sp) (hr : Room (k + 1) X.A) (hg : Gl X x)
    (ha : PA X (e :: es) t) (hdb : (x == ("__debug__" : Str)) = false := by decide) (he : starEach (e :: es) X.env = (false, eval e X.env) :: starEach es X.env := by rfl) (hpl : (backTo pos (starEach es X.env)).any (·.1) = false := by rfl) :
    PE X (.Call (.Name x p) (e :: es) [] pos) (tMake C sp [] E0 t) := by
  obtain ⟨f, fd, F, M, m, b⟩ := h.ex
  exact pe_make M F hr hg m b .nil pass0 ha hdb he hpl
/-- all but what stands at a is kept -/
def Fr (a : Addr) (H H' : Hp) : Prop := ∀ b o, H b = some o → b ≠ a → H' b = some o
theorem Fr.refl (a : Addr) (H : Hp) : Fr a H H := fun _ _ h _ => h
theorem Fr.trans {a : Addr} {H H1 H2 : Hp} (f : Fr a H H1) (g : Fr a H1 H2) : Fr a H H2 := fun b o h n => g b o (f b o h n) n
theorem Fr.same {a : Addr} {H H' : Hp} (f : Same H H') : Fr a H H' := fun b o h _ => f b o h
theorem Fr.at {a : Addr} {H : Hp} {o : HO} : Fr a H (upd H a o) := fun b u h n => by rw [upd_ne n]; exact h
theorem Fr.new {a p : Addr} {H : Hp} {o : HO} (h : H p = Option.none) : Fr a H (upd H p o) := fun b u e _ => by rw [upd_ne (ne_of_none e h)]; exact e
theorem Same.new {p : Addr} {H : Hp} {o : HO} (h : H p = Option.none) : Same H (upd H p o) := fun b u e => by rw [upd_ne (ne_of_none e h)]; exact e
/-- an address that stood nowhere before, behind a frame that keeps all but a -/
theorem Fr.free {a : Addr} {H H' : Hp} (f : Fr a H H') {o : HO} (ha : H a = some o) {p : Addr} (h : H' p = Option.none) (ha' : ∃ o', H' a = some o') : H p = Option.none := by
  cases q : H p with
  | none => rfl
  | some u =>
    by_cases e : p = a
    · subst e
      obtain ⟨o', z⟩ := ha'
      rw [z] at h; cases h
    · rw [f p u q e] at h; cases h
/-- the tuples are kept -/
def TFr (H H' : Hp) : Prop := ∀ p xs, H p = some (.tup xs) → H' p = some (.tup xs)
theorem TFr.refl (H : Hp) : TFr H H := fun _ _ h => h
theorem TFr.trans {H H1 H2 : Hp} (f : TFr H H1) (g : TFr H1 H2) : TFr H H2 := fun p xs h => g p xs (f p xs h)
theorem TFr.same {H H' : Hp} (f : Same H H') : TFr H H' := fun p xs h => f p _ h
theorem TFr.new {p : Addr} {H : Hp} {o : HO} (h : H p = Option.none) : TFr H (upd H p o) := TFr.same (Same.new h)
theorem TFr.lst {p : Addr} {H : Hp} {o : HO} {ys : List V} (h : H p = some (.lst ys)) : TFr H (upd H p o) := fun q xs e => by
  rw [upd_ne (ne_of e h (by intro z; cases z))]; exact e
theorem TFr.fr {a : Addr} {H H' : Hp} {ys : List V} (h : H a = some (.lst ys)) (f : Fr a H H') : TFr H H' := fun q xs e => f q _ e (ne_of e h (by intro z; cases z))
/-- v is a tuple of xs -/
def Tup (H : Hp) (v : V) (xs : List V) : Prop := ∃ p, v = .ref p ∧ H p = some (.tup xs)
theorem Tup.keep {H H' : Hp} {v : V} {xs : List V} (f : TFr H H') (t : Tup H v xs) : Tup H' v xs := by
  obtain ⟨p, e, h⟩ := t
  exact ⟨p, e, f p xs h⟩
/-- the deck that the law draws from, and its own list at l: nothing is known of its five items but that the numbers are in bounds -/
def Deck (H : Hp) (a l : Addr) : Prop := ∃ (ns : List Int) (i c n s : Int), H a = some (.lst [.ref l, .int i, .int c, .int n, .int s]) ∧ H l = some (.lst (ns.map V.int)) ∧ a ≠ l ∧ (∀ z ∈ ns, 0 ≤ z) ∧ 0 ≤ i ∧ i ≤ (ns.length : Int) ∧ 0 ≤ c ∧ 0 ≤ s ∧ s < 2147483647
theorem Deck.is {H : Hp} {a l : Addr} (d : Deck H a l) : ∃ ys, H a = some (.lst ys) := by
  obtain ⟨ns, i, c, n, s, h, _⟩ := d
  exact ⟨_, h⟩
theorem Deck.is' {H : Hp} {a l : Addr} (d : Deck H a l) : ∃ ys, H l = some (.lst ys) := by
  obtain ⟨ns, i, c, n, s, _, h, _⟩ := d
  exact ⟨_, h⟩
theorem Deck.tfr {H H' : Hp} {a l : Addr} (d : Deck H a l) (f : Fr a H H') : TFr H H' := by
  obtain ⟨ys, h⟩ := d.is
  exact TFr.fr h f
theorem Deck.keep {H H' : Hp} {a l : Addr} (d : Deck H a l) (f : Same H H') : Deck H' a l := by
  obtain ⟨ns, i, c, n, s, h, hl, r⟩ := d
  exact ⟨ns, i, c, n, s, f _ _ h, f _ _ hl, r⟩
/-- a store at q, which is neither the deck nor its list -/
theorem Deck.put {H : Hp} {a l q : Addr} {o : HO} (d : Deck H a l) (n1 : q ≠ a) (n2 : q ≠ l) : Deck (upd H q o) a l := by
  obtain ⟨ns, i, c, n, s, h, hl, r⟩ := d
  exact ⟨ns, i, c, n, s, by rw [upd_ne n1.symm]; exact h, by rw [upd_ne n2.symm]; exact hl, r⟩
/-- q was free when the deck stood -/
theorem Deck.ne {H : Hp} {a l q : Addr} (d : Deck H a l) (h : H q = Option.none) : q ≠ a := by
  obtain ⟨ys, z⟩ := d.is
  exact (ne_of_none z h).symm
theorem Deck.ne' {H : Hp} {a l q : Addr} (d : Deck H a l) (h : H q = Option.none) : q ≠ l := by
  obtain ⟨ys, z⟩ := d.is'
  exact (ne_of_none z h).symm
/-- what is free behind a draw was free ahead of it -/
theorem Deck.free {H H' : Hp} {a l q : Addr} (d : Deck H' a l) (f : Fr a H H') (h : H' q = Option.none) : H q = Option.none := by
  have n := d.ne h
  cases e : H q with
  | none => rfl
  | some u => rw [f q u e n] at h; cases h
def spTake : Sp := fun vs H Q _ => ∃ (a l : Addr) (m : Int), vs = [.ref a, .int m] ∧ Deck H a l ∧ 0 < m ∧ m < 1073741824 ∧ ∀ (d : Int) (H' : Hp), 0 ≤ d → d < m → Deck H' a l → Fr a H H' → (∀ b, b ≠ a → H' b = H b) → Q (.int d) H'
theorem pe_gint {X : Cx} {x : Str} {i : Int} {t : Tok} {pos : Pos} (hg : Gl X x) (hm : X.mg x = some (.int i t)) (hd : (x == ("__debug__" : Str)) = false := by decide) : PE X (.Name x pos) (tC (.int i)) := pe_glob (v := .int i) hg hm ⟨t, rfl⟩ hd
theorem walk_enumT {K : PySem.W.Frag} {a : Addr} {xs : List V} : Walk (IteT K a) xs.length (fun H => SqT K H a xs) (fun i H v H' => ∃ T x, v = .ref T ∧ H T = none ∧ H' = upd H T (.tup [.int (i : Nat), x]) ∧ xs[i]? = some x) :=
  ⟨fun i H hi q => ⟨xs, xs[i], q, List.getElem?_eq_getElem hi⟩, fun H q => ⟨xs, q, rfl⟩, fun i H v H' hi q ⟨T, x, e1, e2, e3, f⟩ => ⟨T, x, e1, e2, e3, f xs q⟩⟩
theorem call_lenK {X : Cx} : CallR X (.builtin "len") (rLen X.K) := call_len
def rTupOf (K : PySem.W.Frag) : List V → Hp → VK → Prop := fun xs H Q => ∃ p ys, xs = [.ref p] ∧ ((SqL K H p ys ∧ ∀ l, H l = none → Q (.ref l) (upd H l (.tup ys))) ∨ (SqT K H p ys ∧ Q (.ref p) H))
theorem call_tupleK {X : Cx} : CallR X (.type "tuple") (rTupOf X.K) := call_tuple_of
def rListOf (K : PySem.W.Frag) : List V → Hp → VK → Prop := fun xs H Q => ∃ p ys, xs = [.ref p] ∧ (SqL K H p ys ∨ SqT K H p ys) ∧ ∀ l, H l = none → Q (.ref l) (upd H l (.lst ys))
theorem call_listK {X : Cx} : CallR X (.type "list") (rListOf X.K) := call_list_of
theorem hu64 {A : Around} {k : Nat} (hr : Room k A) : A.units + 64 < cLine := by have := hr.un; omega
/-- the names that the top leaves to the built-ins -/
structure Txt (mg : Str → Option Value) : Prop where
  len : mg "len" = none
  int : mg "int" = none
  abs : mg "abs" = none
  list : mg "list" = none
  tuple : mg "tuple" = none
  range : mg "range" = none
  min : mg "min" = none
  isinstance : mg "isinstance" = none
  enumerate : mg "enumerate" = none
  bool : mg "bool" = none
  str : mg "str" = none
  all : mg "all" = none
  any : mg "any" = none
  sum : mg "sum" = none
  max : mg "max" = none
  sorted : mg "sorted" = none
  zip : mg "zip" = none
  set : mg "set" = none
end Xci

namespace Xci
open PySem PySem.Spec PyProof.Rows L2
/-- a set as it is made, nothing in it -/
abbrev emptyO (w : World) : Obj := { cls := .type "set", dict := none, data := .set #[] 0 (.fresh 0 0 (!w.params.followText "set-order")) }
section
variable {P : Program} {w : World} {A : Around} {E : Value → Shared → Prop} {s : Shared}
/-- a type that makes a thing and fills it; what the filling is checked for is the caller's to tell -/
theorem made_and_filled {T newId initId : String} {args : List Value} {Q Made : Value → Shared → Prop} (ft : TypeCalled T newId initId) (fits : checkTypeCall T ⟨args, []⟩ = pure ())
    (making : codeAny (model P w) A.in1 (.call (.builtin newId) ⟨.type T :: args, []⟩) (wants Made E) s)
    (filling : ∀ v s1, Made v s1 → s1.TypeIs v T ∧ codeAny (model P w) A.in1 (.call (.builtin initId) ⟨v :: args, []⟩) (wants (fun r s2 => r = .none ∧ Q v s2) E) s1) :
    wpAny (model P w) A (call (.type T) args) Q E s := by
  have order := ft.mro
  have maker := ft.made
  have self := ft.sub
  have apart := ft.notType
  have may := ft.canCreate
  obtain ⟨_, _, order⟩ := order
  refine wpAny_call (codeAny_of_tree (show wpAny _ _ (callAny (.type T) _) _ _ _ from wpAny_pure ⟨Code.quiet_builtin _ (by decide +kernel), codeAny_builtin F.entry_type_call ?_⟩))
  rw [Around.under_plain (weight_type_call_type T args []) rfl]
  repeat (any_goals (first | assumption | wp_step))
  refine codeAny_mono making fun r s1 mr => ?_
  match r, mr with
  | .ok (.ret v), mr =>
    obtain ⟨isT, fill⟩ := filling v s1 mr
    have where_ := ft.init.lookup
    have bound := ft.init.bind v
    repeat (any_goals (first | assumption | wp_step))
    refine codeAny_mono fill fun r2 s2 fr => ?_
    match r2, fr with
    | .ok (.ret r), fr =>
      obtain ⟨rfl, done⟩ := fr
      repeat (any_goals (first | assumption | wp_step))
    | .error _, fr => exact fr
  | .error _, mr => exact mr
set_option maxHeartbeats 3200000 in
/-- set(a tuple of tuples of ints): what is told of it is what the loop over the tuple's walk leaves -/
theorem set_of_tuple {t : Addr} {items : Array Value} (ks : List (Addr × List Int)) {Q : Value → Shared → Prop} (hh : A.handled = none) (p : s.heap.IsTuple t items) (row : items.toList = ks.map fun p => Value.ref p.1)
    (hk : ∀ p ∈ ks, IsT P w s.heap p.2 p.1) (few : ks.length < 64) (hu : A.units + 3 < cLine)
    (q : ∀ h' tk L es ep tb, SetTR P w h' s.heap.objs.size L es ep tb → (∀ x, x ∈ L.map (·.2) ↔ x ∈ ks.map (·.2)) → (∀ b o, s.heap.get? b = some o → h'.get? b = some o) → Q (.ref s.heap.objs.size) { s with heap := h', toks := tk }) :
    wpAny (model P w) A (call (.type "set") [.ref t]) Q E s := by
  refine made_and_filled F.called_set (F.typeCall_set_1 _) (code_set_led1 (Q₁ := fun v s1 => v = .ref s.heap.objs.size ∧ s1 = { s with heap := s.heap.push (emptyO w) }) (.ref t) ⟨rfl, rfl⟩) ?_
  rintro _ _ ⟨rfl, rfl⟩
  have new : (s.heap.push (emptyO w)).get? s.heap.objs.size = some (emptyO w) := Heap.get?_push_size _ rfl
  refine ⟨⟨_, new, rfl⟩, codeAny_call_builtin F.called_set.init.plain F.entry_set_init (check_set_init_1 ⟨_, new, rfl⟩ ?_)⟩
  have old : ∀ b o, s.heap.get? b = some o → (s.heap.push (emptyO w)).get? b = some o := fun b o => Heap.get?_push_of_some _
  have tup : (s.heap.push (emptyO w)).IsTuple t items := p.at fun o => old t o
  have noSet := F.sub_tuple_set
  have noFrozen := F.sub_tuple_frozenset
  have noDict : (Value.type "tuple" == Value.type "dict") = false := by decide
  obtain ⟨o, at0, c0, n0, d0⟩ := id tup
  obtain ⟨oc, od, odat, osl⟩ := o
  cases c0
  cases d0
  unfold Builtin.«set.__init__» noKeywords Builtin.Frozenset.updateFrom
  generalize iterates : pyIter = PI
  wp_walk
  subst iterates
  refine wpAny_pyIter_tuple tup ?_
  refine wpAny_bind (wpAny_runValue ?_)
  have size1 : (s.heap.push (emptyO w)).objs.size = s.heap.objs.size + 1 := Heap.size_push ..
  have lt := Heap.lt_size (p.choose_spec.1)
  have count : items.size = ks.length := by rw [← Array.length_toList, row, List.length_map]
  have nowhere : ∀ b, s.heap.objs.size ≤ b → s.heap.get? b = none := fun b hb => by
    cases z : s.heap.get? b with
    | none => rfl
    | some o => exact absurd (Heap.lt_size z) (Nat.not_lt.mpr hb)
  have W := (Walks.tuple (prog := P) (w := w) (A := A.in1.in1.in1) (show A.in1.in1.in1.handled = none from hh) (s.heap.objs.size + 1) t (Nat.ne_of_lt (Nat.lt_succ_of_lt lt)) items).toS
  show codeAny _ _ (.builtin "set.update.loop" ⟨[.ref s.heap.objs.size, .ref (s.heap.push (emptyO w)).objs.size], []⟩) _ _
  rw [size1]
  refine set_update_tups W s.heap.objs.size ?_ ks count few (fun i v e => ?_) s.heap hk (nowhere _ (Nat.le_refl _)) (fun b hb => nowhere b ?_) (by simpa using hu) (items.size - 0) 0 _ rfl (Nat.zero_le _) ?_ (fun b o e => ?_) ⟨[], _, _, _, setTR_fresh ?_, Got.zero ks⟩ fun s' L es ep tb moved R got kept => ?_
  · intro z
    rcases List.mem_cons.mp z with z | z
    · exact absurd z (Nat.ne_of_lt (Nat.lt_succ_self _))
    · exact absurd (List.mem_singleton.mp z) (Nat.ne_of_gt lt)
  · rw [← Array.getElem?_toList, row, List.getElem?_map] at e
    obtain ⟨y, hy, ey⟩ := Option.map_eq_some_iff.mp e
    exact ⟨y, hy, ey.symm⟩
  · rw [List.mem_singleton.mp hb]
    exact Nat.le_succ _
  · refine ⟨⟨{ cls := .type "tuple_iterator", data := .fields #[.ref t, .int 0 0] }, ?_, rfl, rfl⟩, tup.at fun o => Heap.get?_push_of_some _⟩
    rw [← size1]
    exact Heap.get?_push_size _ rfl
  · exact Heap.get?_push_of_some _ (old b o e)
  · exact Heap.get?_push_of_some _ new
  · rw [count] at got
    have members : ∀ x, x ∈ L.map (·.2) ↔ x ∈ ks.map (·.2) := fun x => by
      constructor
      · intro z
        obtain ⟨y, hy, ey⟩ := List.mem_map.mp z
        exact ey ▸ List.mem_map_of_mem (List.mem_of_mem_take (got.sub y hy))
      · intro z
        obtain ⟨y, hy, ey⟩ := List.mem_map.mp z
        exact ey ▸ got.all y (by rw [List.take_length]; exact hy)
    obtain ⟨h', g', d', tk', os'⟩ := s'
    obtain ⟨_, rfl, ed, eo, _⟩ := moved
    cases (show d' = s.drawn from ed)
    cases (show os' = s.os from eo)
    exact wpAny_pure (wpAny_pure ⟨rfl, q h' tk' L es ep tb R members kept⟩)
end
theorem fewer_of_twice {α : Type} : ∀ (l : List α), ¬ l.Nodup → ∃ m : List α, m.length < l.length ∧ ∀ x ∈ l, x ∈ m
  | [], h => absurd List.nodup_nil h
  | x :: r, h => by
    by_cases hx : x ∈ r
    · refine ⟨r, Nat.lt_succ_self _, fun y hy => ?_⟩
      rcases List.mem_cons.mp hy with e | z
      · rw [e]; exact hx
      · exact z
    · obtain ⟨m, h1, h2⟩ := fewer_of_twice r fun z => h (List.nodup_cons.mpr ⟨hx, z⟩)
      refine ⟨x :: m, Nat.succ_lt_succ h1, fun y hy => ?_⟩
      rcases List.mem_cons.mp hy with e | z
      · rw [e]; exact List.mem_cons_self
      · exact List.mem_cons_of_mem _ (h2 y z)
theorem fits_in {α : Type} [DecidableEq α] : ∀ (l m : List α), l.Nodup → (∀ x ∈ l, x ∈ m) → l.length ≤ m.length
  | [], _, _, _ => Nat.zero_le _
  | x :: r, m, h, s => by
    obtain ⟨h1, h2⟩ := List.nodup_cons.mp h
    have hm := s x List.mem_cons_self
    have ne : ∀ y ∈ r, y ≠ x := fun y hy e => by rw [e] at hy; exact h1 hy
    have k := fits_in r (m.erase x) h2 fun y hy => (List.mem_erase_of_ne (ne y hy)).mpr (s y (List.mem_cons_of_mem _ hy))
    rw [List.length_erase_of_mem hm] at k
    have : 0 < m.length := List.length_pos_of_mem hm
    show r.length + 1 ≤ _
    omega
theorem count_unlike {α : Type} [DecidableEq α] {l m : List α} (h : l.Nodup) (same : ∀ x, x ∈ l ↔ x ∈ m) : l.length ≤ m.length ∧ (l.length = m.length ↔ m.Nodup) := by
  refine ⟨fits_in l m h fun x => (same x).mp, fun e => ?_, fun hm => ?_⟩
  · refine Decidable.byContradiction fun twice => ?_
    obtain ⟨k, k1, k2⟩ := fewer_of_twice m twice
    have := fits_in l k h fun x hx => k2 x ((same x).mp hx)
    omega
  · exact Nat.le_antisymm (fits_in l m h fun x => (same x).mp) (fits_in m l hm fun x => (same x).mpr)
/-- len(set(x)), x a tuple of tuples of ints: how many unlike ones stand in it -/
def tLenSetT (K : PySem.W.Frag) (ta : TE) : TE := fun σ H Q => ta σ H fun x H1 => ∃ (t : Addr) (ks : List (Addr × List Int)), x = .ref t ∧ SqT K H1 t (ks.map fun p => .ref p.1) ∧ (∀ p ∈ ks, SqT K H1 p.1 (p.2.map V.int)) ∧ ks.length < 64 ∧
  ∀ n : Nat, n ≤ ks.length → (n = ks.length ↔ (ks.map (·.2)).Nodup) → Q (.int n) H1
theorem pe_lenSetT {X : Cx} {a : Expr} {ta : TE} {p p2 q pos : Pos} (hc : X.calm = true) (hu : X.A.units + 64 < cLine) (hg : Gl X "len") (hm : X.mg "len" = none) (hg2 : Gl X "set") (hm2 : X.mg "set" = none) (ha : PE X a ta)
    (na : starEach [a] X.env = (false, eval a X.env) :: starEach [] X.env := by rfl) : PE X (.Call (.Name "len" p) [.Call (.Name "set" p2) [a] [] q] [] pos) (tLenSetT X.K ta) where
  run pins s σ H Q I h := by
    refine Call_ (ld_blt I hg hm PySem.boot_len (callWith_builtin1 (args_cons (Call_ (ld_blt I hg2 hm2 boot_set (callWith_type1 (args_cons (thn (ha.run pins s σ H _ I h) fun v s1 ⟨x, H1, I1, rv, t, ks, one, sq, each, few, k⟩ => args_nil ?_) na) na rfl))) rfl) rfl rfl))
    subst one
    cases rv
    obtain ⟨its, vals, tup, _⟩ := I1.tuple sq
    refine set_of_tuple (P := X.prog) (w := X.w) ks (I1.ok.hd hc) tup (refs_of_vals vals) (fun p hp => I1.isT (each p hp)) few (by omega) fun h' tk L es ep tb R members kept => args_nil ?_
    obtain ⟨o, at0, exact_, dat⟩ := R.ob
    have n1 := count_unlike R.nd members
    rw [List.length_map, List.length_map] at n1
    have n2 : es.size = L.length := R.size (s := ⟨h', s1.gens, s1.drawn, tk, s1.os⟩)
    have J : Inv X pins σ H1 { s1 with heap := h', toks := tk } := I1.kept kept
    refine call_len_set at0 exact_ dat (R.fits (s := ⟨h', s1.gens, s1.drawn, tk, s1.os⟩)) (by rw [n2]; omega) ⟨.int L.length, H1, J.tok _, ⟨_, by rw [n2]⟩, k _ n1.1 n1.2⟩
end Xci

namespace Xci
open PySem PySem.Spec PyProof.Rows L2
section
variable {κ : Type} [DecidableEq κ] {P : Program} {w : World} (kind : KeyKind P w κ)
/-- rows and table of a set whose members are told by S, n of them, any two rows unlike, and that can be walked -/
structure Laid (es : Array (Int × Value)) (t : SetTable) (S : κ → Bool) (n : Nat) : Prop where
  rows : ElemsOf kind es.toList
  told : ∀ k, S k = true ↔ ∃ e ∈ es.toList, kind.is k e.2 = true
  unlike : es.toList.Pairwise fun e f => ∀ k, kind.is k e.2 = true → kind.is k f.2 = false
  few : es.size < scanBound
  fits : t.fits es.size = true
  count : es.size = n
  rises : Ris t.place.toList
  ledger : w.params.followText "set-order" = true ∨ t.led = true
variable {kind}
theorem unlike_perm {l m : List (Int × Value)} (p : l.Perm m) (h : l.Pairwise fun e f => ∀ k, kind.is k e.2 = true → kind.is k f.2 = false) : m.Pairwise fun e f => ∀ k, kind.is k e.2 = true → kind.is k f.2 = false :=
  (p.pairwise_iff (fun {e f} q k hf => by
    cases z : kind.is k e.2 with
    | false => rfl
    | true => exact absurd hf (by rw [q k z]; exact Bool.false_ne_true))).mp h
/-- laid anew for another size -/
theorem Laid.again {es : Array (Int × Value)} {t : SetTable} {S : κ → Bool} {n : Nat} (L : Laid kind es t S n) (size : Nat) : Laid kind (relayAll t es size).1 (relayAll t es size).2.1 S n where
  rows := L.rows.perm (relayAll_perm t es size)
  told k := (L.told k).trans (by constructor <;> (rintro ⟨e, he, q⟩; exact ⟨e, by first | exact (relayAll_perm t es size).mem_iff.mpr he | exact (relayAll_perm t es size).mem_iff.mp he, q⟩))
  unlike := unlike_perm (relayAll_perm t es size).symm L.unlike
  few := by rw [← Array.length_toList, (relayAll_perm t es size).length_eq, Array.length_toList]; exact L.few
  fits := relayAll_fits t es size
  count := by rw [← Array.length_toList, (relayAll_perm t es size).length_eq, Array.length_toList]; exact L.count
  rises := relayAll_ris t es size
  ledger := L.ledger.imp id fun z => by rw [relayAll_led]; exact z
/-- one more row -/
theorem Laid.more {es : Array (Int × Value)} {t : SetTable} {S : κ → Bool} {n : Nat} {k : κ} {v : Value} (L : Laid kind es t S n) (is : kind.is k v = true) (scan : v.scannable = true) (no : S k = false) (room : n + 1 < scanBound) :
    Laid kind (layNew t es (kind.hash k) v).1 (layNew t es (kind.hash k) v).2.1 (fun j => S j || decide (j = k)) (n + 1) := by
  have p := layNew_perm t es (kind.hash k) v
  rw [Array.toList_push] at p
  have size : (layNew t es (kind.hash k) v).1.size = n + 1 := by
    rw [← Array.length_toList, p.length_eq, List.length_append, Array.length_toList, L.count] <;> rfl
  exact {
    rows := (L.rows.push is scan).perm p
    told := mem_push_iff is L.told p
    unlike := unlike_perm p.symm (List.pairwise_append.mpr ⟨L.unlike, List.pairwise_singleton .., fun e he f hf j hj => by
      rw [List.mem_singleton.mp hf]
      cases z : kind.is j v with
      | false => rfl
      | true =>
        have ek := kind.inj v j k z is
        rw [ek] at hj
        exact absurd ((L.told k).mpr ⟨e, he, hj⟩) (by rw [no]; exact Bool.false_ne_true)⟩)
    few := by rw [size]; exact room
    fits := layNew_fits t es (kind.hash k) v
    count := size
    rises := layNew_ris t es (kind.hash k) v L.rises
    ledger := L.ledger.imp id fun z => by rw [layNew_led]; exact z }
/-- the table may lose its plainness -/
theorem Laid.blunt {es : Array (Int × Value)} {t : SetTable} {S : κ → Bool} {n : Nat} (L : Laid kind es t S n) : Laid kind es { t with plain := false } S n :=
  ⟨L.rows, L.told, L.unlike, L.few, SetTable.fits_plain_off L.fits, L.count, L.rises, L.ledger⟩
variable (kind) in
/-- the set at a -/
def SetL (h : Heap) (a : Addr) (S : κ → Bool) (n : Nat) : Prop := ∃ o es ep t, h.get? a = some o ∧ o.ExactSet ∧ o.data = .set es ep t ∧ Laid kind es t S n
variable {A : Around} {E : Value → Shared → Prop} {s : Shared} {a : Addr} {S : κ → Bool} {n : Nat}
theorem SetL.keep {h h' : Heap} (R : SetL kind h a S n) (k : ∀ o, h.get? a = some o → h'.get? a = some o) : SetL kind h' a S n := by
  obtain ⟨o, es, ep, t, at0, r⟩ := R
  exact ⟨o, es, ep, t, k o at0, r⟩
/-- the rows written down, and the table made anew where it is full -/
theorem written {g : Bool → Sem Unit} (quiet : ∀ (b : Bool) (s1 : Shared) (R' : Unit → Shared → Prop), R' () s1 → wpAny (model P w) A (g b) R' E s1) {o : Obj} {es es' : Array (Int × Value)} {ep : Nat} {t t' : SetTable}
    (at0 : s.heap.get? a = some o) (exact_ : o.ExactSet) (dat : o.data = .set es ep t) (L : Laid kind es' t' S n) {dummy : Bool} {R : Option Bool → Shared → Prop}
    (end_ : ∀ h', Heap.SameBut a s.heap h' → SetL kind h' a S n → R (some true) { s with heap := h' }) :
    wpAny (model P w) A (do
        storeSet a es' t'
        if (!dummy && t'.tooFull) = true then do
            g (relayAll t' es' (SetTable.grown es'.size)).2.2
            storeSet a (relayAll t' es' (SetTable.grown es'.size)).1 (relayAll t' es' (SetTable.grown es'.size)).2.1
            pure (some true)
          else pure (some true)) R E s := by
  have at1 := store_at (es' := es') (t' := t') at0 dat
  have only := Heap.SameBut.update s.heap a (Obj.putSet es' t')
  have M := L.again (SetTable.grown es'.size)
  refine wpAny_bind (wpAny_storeSet_of at0 dat ?_ (fits_of_scanBound L.few))
  split
  · exact wpAny_bind (quiet _ _ _ (wpAny_bind (wpAny_storeSet_of at1 rfl (wpAny_pure (end_ _ (only.trans (Heap.SameBut.update _ a _)) ⟨_, _, _, _, store_at at1 rfl, exact_, rfl, M⟩)) (fits_of_scanBound M.few))))
  · exact wpAny_pure (end_ _ only ⟨_, _, _, _, at1, exact_, rfl, L⟩)
theorem SetL.add {k : κ} {v : Value} (is : kind.is k v = true) (scan : v.scannable = true) {Q : Bool → Shared → Prop} (R : SetL kind s.heap a S n) (room : n + 1 < scanBound)
    (q : ∀ h', Heap.SameBut a s.heap h' → SetL kind h' a (fun j => S j || decide (j = k)) (if S k = true then n else n + 1) → Q (!S k) { s with heap := h' }) :
    wpAny (model P w) A (setAddHashed a v (kind.hash k)) Q E s := by
  obtain ⟨o, es, ep, t, at0, exact_, dat, L⟩ := R
  have silent : ∀ (b : Bool) (s1 : Shared) (R' : Unit → Shared → Prop), R' () s1 → wpAny (model P w) A (match b with | true => rule "set.scan.the-table-gave-way" | false => pure ()) R' E s1 := fun b s1 R' z => by
    cases b
    · exact wpAny_pure z
    · exact wpAny_rule z
  unfold setAddHashed setAddHashedIn
  refine wpAny_holding (wpAny_bind (wpAny_setState_of at0 dat L.fits ?_))
  dsimp only
  rw [byScan_of scan L.few L.rows, if_pos rfl]
  unfold setAddByScan
  refine wpAny_bind (wpAny_bind (wpAny_rule (wpAny_bind (wpAny_setScan_of is at0 dat L.fits L.rows ?_))))
  cases met : List.findIdx? (fun e => kind.is k e.2) es.toList with
  | some j =>
    dsimp only
    obtain ⟨hj, pj, _⟩ := List.findIdx?_eq_some_iff_getElem.mp met
    have old : S k = true := (L.told k).mpr ⟨_, List.getElem_mem hj, pj⟩
    have same : (fun j => S j || decide (j = k)) = S := funext fun j => by
      by_cases e : j = k
      · rw [e, old] <;> rfl
      · rw [decide_eq_false e, Bool.or_false]
    have z := q s.heap (Heap.SameBut.refl a s.heap)
    rw [same, if_pos old, old] at z
    exact wpAny_pure (wpAny_pure (z ⟨o, es, ep, t, at0, exact_, dat, L⟩))
  | none =>
    dsimp only
    have no : S k = false := by
      cases z : S k with
      | false => rfl
      | true =>
        obtain ⟨e, he, p⟩ := (L.told k).mp z
        have c := List.findIdx?_eq_none_iff.mp met e he
        rw [p] at c
        cases c
    have M := L.more is scan no room
    rw [if_neg (by rw [no]; exact Bool.false_ne_true), no] at q
    generalize layNew t es (kind.hash k) v = lot at M ⊢
    obtain ⟨es1, t1, dummy, gave⟩ := lot
    dsimp only at M ⊢
    refine wpAny_bind (silent _ _ _ ?_)
    split
    · refine wpAny_bind ?_
      rw [hashByValue_scannable 8 scan]
      refine wpAny_pure ?_
      refine written (fun b s1 R' z => silent b s1 R' z) at0 exact_ dat (n := n + 1) (S := fun j => S j || decide (j = k)) ?_ fun h' only R => wpAny_pure (q h' only R)
      split
      · exact M
      · exact M.blunt
    · refine wpAny_bind (wpAny_pure ?_)
      rw [if_pos rfl]
      exact written (fun b s1 R' z => silent b s1 R' z) at0 exact_ dat M fun h' only R => wpAny_pure (q h' only R)
/-- set.add of one more -/
theorem SetL.call_add {k : κ} {v : Value} (is : kind.is k v = true) (scan : v.scannable = true) {Q : Value → Shared → Prop} (R : SetL kind s.heap a S n) (room : n + 1 < scanBound)
    (q : ∀ h', Heap.SameBut a s.heap h' → SetL kind h' a (fun j => S j || decide (j = k)) (if S k = true then n else n + 1) → Q .none { s with heap := h', toks := s.toks + 1 }) :
    wpAny (model P w) A (call (.builtin "set.add") [.ref a, v]) Q E s := by
  obtain ⟨o, _, _, _, at0, exact_, _, _⟩ := id R
  refine wpAny_call_entry F.slot_set_add ⟨o, at0, exact_.1⟩ F.entry_set_add ?_ (F.args_set_add_2 _ _)
  unfold Builtin.«set.add» Builtin.Frozenset.oneOther
  simp only [List.isEmpty_nil, bind_assoc]
  unfold Builtin.Frozenset.addrOf setAdd
  refine wpAny_bind (wpAny_pure (wpAny_bind (wpAny_pure (wpAny_bind (wpAny_holding (wpAny_bind (kind.pyHash is ?_)))))))
  exact SetL.add (s := { s with toks := s.toks + 1 }) is scan R room fun h' only M => wpAny_pure ⟨_, rfl, q h' only M⟩
/-- a set as it is made -/
theorem SetL.none {h : Heap} : SetL kind (h.push { cls := .type "set", dict := none, data := .set #[] 0 (.fresh 0 0 (!w.params.followText "set-order")) }) h.objs.size (fun _ => false) 0 := by
  refine ⟨_, _, _, _, Heap.get?_push_size _ rfl, ⟨rfl, rfl, rfl⟩, rfl, nofun, fun k => ⟨nofun, nofun⟩, List.Pairwise.nil, by decide, rfl, rfl, List.Pairwise.nil, ?_⟩
  cases z : w.params.followText "set-order"
  · exact .inr rfl
  · exact .inl rfl
end
section
variable {P : Program} {w : World} {A : Around} {E : Value → Shared → Prop} {s : Shared} {a : Addr} {S : Str → Bool} {n : Nat}
theorem texts_of : ∀ (us : List Value), (∀ u ∈ us, ∃ x t, u = Value.str x t) → ∃ xs, StrsAre us xs
  | [], _ => ⟨[], .nil⟩
  | u :: us, h => by
    obtain ⟨x, t, rfl⟩ := h u List.mem_cons_self
    obtain ⟨xs, r⟩ := texts_of us fun v hv => h v (List.mem_cons_of_mem _ hv)
    exact ⟨x :: xs, .cons x t r⟩
theorem strsAre_mem : ∀ {us : List Value} {xs : List Str}, StrsAre us xs → ∀ x, x ∈ xs ↔ ∃ t, Value.str x t ∈ us
  | _, _, .nil, x => by simp
  | _, _, .cons y t r, x => by
    have ih := strsAre_mem r x
    constructor
    · intro h
      rcases List.mem_cons.mp h with e | h
      · exact ⟨t, by rw [e]; exact List.mem_cons_self⟩
      · obtain ⟨t', h⟩ := ih.mp h
        exact ⟨t', List.mem_cons_of_mem _ h⟩
    · rintro ⟨t', h⟩
      rcases List.mem_cons.mp h with e | h
      · cases e
        exact List.mem_cons_self
      · exact List.mem_cons_of_mem _ (ih.mpr ⟨t', h⟩)
/-- sorted(a set of texts): its members, rising -/
theorem sorted_texts {Q : Value → Shared → Prop} (R : SetL (PySem.strKind P w) s.heap a S n) (hh : A.handled = none) (small : n < 64)
    (q : ∀ s' p (out : Array Value) (c : Nat) (xs : List Str), (∀ b o, s.heap.get? b = some o → s'.heap.get? b = some o) → s'.gens = s.gens → s'.os = s.os → s.heap.objs.size ≤ p →
      s'.heap.get? p = some (seqObj "list" out c) → StrsAre out.toList xs → sortedS xs = true → (∀ x, x ∈ xs ↔ S x = true) → xs.length = n → Q (.ref p) s') :
    wpAny (model P w) A (call (.builtin "sorted") [.ref a]) Q E s := by
  obtain ⟨o, es, ep, t, at0, exact_, dat, L⟩ := R
  refine Calls.call_function_entry kind_sorted plain_sorted entry_sorted (args_sorted1 _) ?_
  unfold Builtin.«sorted»
  refine wpAny_bind (m := checkCount "sorted" 1 1 _) (wpAny_pure (wpAny_bind (collect_set (A := A.in1) hh ⟨o, at0, exact_.1, dat⟩ L.fits L.few L.rises L.ledger fun s1 vs k1 z1 g1 o1 pm => ?_)))
  have len : vs.length = n := by rw [pm.length_eq, List.length_map, Array.length_toList, L.count]
  obtain ⟨xs, texts⟩ := texts_of vs fun v hv => by
    obtain ⟨e, he, rfl⟩ := List.mem_map.mp (pm.mem_iff.mp hv)
    obtain ⟨⟨k, is, _⟩, _⟩ := L.rows e he
    obtain ⟨tk, ev⟩ := Value.isStrOf_shape is
    exact ⟨k, tk, ev⟩
  have members : ∀ x, x ∈ xs ↔ S x = true := fun x => by
    rw [strsAre_mem texts x, L.told x]
    constructor
    · rintro ⟨tk, h⟩
      obtain ⟨e, he, ev⟩ := List.mem_map.mp (pm.mem_iff.mp h)
      exact ⟨e, he, by rw [ev]; exact PySem.strKind_is P w x tk⟩
    · rintro ⟨e, he, is⟩
      obtain ⟨tk, ev⟩ := Value.isStrOf_shape is
      exact ⟨tk, pm.mem_iff.mpr (List.mem_map.mpr ⟨e, he, ev⟩)⟩
  refine wpAny_bind (wpAny_newList ?_ (by rw [len, sizeLine_eq]; omega))
  have made : (s1.heap.push (seqObj "list" vs.toArray 0)).get? s1.heap.objs.size = some (seqObj "list" vs.toArray 0) := Heap.get?_push_size _ rfl
  refine wpAny_bind (wpAny_holding (wpAny_call_entry slot_list_sort ⟨_, made, rfl⟩ entry_list_sort (list_sort_treeKAny PyProof.Rows.strKind_oneLt made texts.keysOf (fun v1 v2 rest e => keyKind_strs (by rw [← e]; exact texts)) (by rw [len, sizeLine_eq]; omega) fun st p r => ?_) (args_list_sort _)))
  obtain ⟨ys, h1, h2, h3⟩ := sorted_out_str texts p r
  obtain ⟨c, at1⟩ := sortedHeap_at (vs := vs) (out := (arrOf st).map (·.2)) made
  refine ⟨_, rfl, wpAny_pure ⟨_, rfl, q _ s1.heap.objs.size _ c ys (fun b u e => ?_) g1 o1 z1 at1 h1 h3 (fun x => (h2.mem_iff).trans (members x)) ?_⟩⟩
  · have z := k1 b u e
    have lt := Heap.lt_size z
    show (sortedHeap (s1.heap.push (seqObj "list" vs.toArray 0)) s1.heap.objs.size vs ((arrOf st).map (·.2))).get? b = some u
    rw [sortedHeap_old (Nat.ne_of_lt lt) (by rw [size_push']; exact Nat.lt_succ_of_lt lt)]
    exact Heap.get?_push_of_some _ z
  · rw [h2.length_eq, ← texts.len_eq, len]
end
end Xci

namespace Xci
open PySem PySem.Spec PyProof.Rows L2
/-- the set of texts at a, as a tracked thing -/
def TextsO (P : Program) (w : World) (a : Addr) (S : Str → Bool) (n : Nat) : HO := .ext fun h => SetL (PySem.strKind P w) h a S n
theorem texts_new {P : Program} {w : World} {H : Hp} {h : Heap} {a : Addr} {S : Str → Bool} {n : Nat} (R : SetL (PySem.strKind P w) h a S n) : ObjOk P w H h a (TextsO P w a S n) :=
  ⟨R, R.elim fun o z => z.elim fun _ z => z.elim fun _ z => z.elim fun _ z => ⟨o, z.1⟩, fun _ _ p k => SetL.keep p k⟩
section
variable {X : Cx}
theorem texts_get {pins : List (Addr × Obj)} {σ : L2.St} {H : Hp} {s : Shared} {a : Addr} {S : Str → Bool} {n : Nat} (I : Inv X pins σ H s) (e : H a = some (TextsO X.prog X.w a S n)) : SetL (PySem.strKind X.prog X.w) s.heap a S n := (I.hok a _ e).1
/-- one more text -/
theorem texts_add {pins : List (Addr × Obj)} {σ : L2.St} {H : Hp} {s : Shared} {E : Value → Shared → Prop} {D : Addr} {S : Str → Bool} {n : Nat} {x : Str} {t : Tok} {Q : Value → Shared → Prop} (I : Inv X pins σ H s) (e : H D = some (TextsO X.prog X.w D S n)) (room : n + 1 < scanBound)
    (q : ∀ s', Inv X pins σ (upd H D (TextsO X.prog X.w D (fun j => S j || decide (j = x)) (if S x = true then n else n + 1))) s' → Q .none s') : wpAny (model X.prog X.w) X.A (call (.builtin "set.add") [.ref D, .str x t]) Q E s :=
  SetL.call_add (PySem.strKind_is _ _ x t) rfl (texts_get I e) room fun h' only R => q _ (I.write (e := D) (t' := s.toks + 1) (by rw [e]; trivial) (.inl rfl) (fun b u hb hu => (only.2 b hb).trans hu)
    (R.elim fun o z => z.elim fun _ z => z.elim fun _ z => z.elim fun _ z => ⟨o, z.1⟩) (texts_new R))
/-- sorted(a set of texts) -/
def rSortedTexts (P : Program) (w : World) : List V → Hp → VK → Prop := fun vs H Q => ∃ (a : Addr) (S : Str → Bool) (n : Nat), vs = [V.ref a] ∧ H a = some (TextsO P w a S n) ∧ n < 64 ∧
  ∀ (xs : List Str) (p : Addr), sortedS xs = true → (∀ x, x ∈ xs ↔ S x = true) → xs.length = n → H p = none → Q (.ref p) (upd H p (.lst (xs.map V.str)))
theorem vals_texts : ∀ {us : List Value} {xs : List Str}, StrsAre us xs → Vals (xs.map V.str) us
  | _, _, .nil => .nil
  | _, _, .cons x t r => .cons ⟨t, rfl⟩ (vals_texts r)
theorem cr_sortedTexts (calm : X.calm = true) : CallR X (.builtin "sorted") (rSortedTexts X.prog X.w) := by
  intro pins s σ H vs us Q I rv told
  obtain ⟨a, S, n, rfl, at0, small, q⟩ := told
  rw [Vals.ref1 rv]
  refine sorted_texts (texts_get I at0) (I.ok.hd calm) small fun s' p out c xs kept gens os fresh at1 texts up members len => ?_
  have free : H p = none := I.hok.fresh fresh
  have short : (xs.map V.str).length ≤ sizeLine := by rw [List.length_map, len, sizeLine_eq]; omega
  have J : Inv X pins σ (upd H p (.lst (xs.map V.str))) s' := I.call' (ch := []) os (Un.laid kept fresh free) (I.hok.laid kept fresh ⟨short, out.toList, c, vals_texts texts, at1⟩) (by rw [gens]; exact I.bare) (fun _ z => nomatch z)
  exact ⟨.ref p, _, J, rfl, q xs p up members len free⟩
end
end Xci

namespace Xci
open PySem PySem.Spec PyProof.Rows L2
/-- the parts of a comprehension, read in its own block -/
structure InBlock (X : Cx) (scope : Scope) (tg : Expr) (ifs : List Expr) (elt : Expr) (g : TG) (tt : TT) (te : TE) : Prop where
  target : ∀ (s : Shared) (H : Hp) (C : Addr) (cl : List (PySem.Str × Addr)) (fp : List Addr), PG (X.blk s H scope (compEnvC scope cl C X.env) fp) tg g
  tests : ∀ (s : Shared) (H : Hp) (C : Addr) (cl : List (PySem.Str × Addr)) (fp : List Addr), PTs (X.blk s H scope (compEnvC scope cl C X.env) fp) ifs tt
  item : ∀ (s : Shared) (H : Hp) (C : Addr) (cl : List (PySem.Str × Addr)) (fp : List Addr), PE (X.blk s H scope (compEnvC scope cl C X.env) fp) elt te
/-- {text for .. in .. if ..} in N turns: D the new set -/
def tTexts (P : Program) (w : World) (wi : TI) (g : TG) (tt : TT) (te : TE) (own : List Nat) : TE := fun σ H Q => wi σ H fun J H1 => ∀ D, H1 D = none → ∃ (N : Nat) (W : Nat → Hp → Prop), W 0 (upd H1 D (TextsO P w D (fun _ => false) 0)) ∧
  (∀ H, W N H → J.stop N H ∧ Q (.ref D) H) ∧ ∀ i H, i < N → W i H → J.go i H ∧ ∀ x H', J.yld i H x H' → g x (wipe σ own) H' fun σ2 H2 => wipe σ2 own = wipe σ own ∧ tt σ2 H2 fun b H3 =>
    if b = true then te σ2 H3 fun y H4 => ∃ (c : Str) (S : Str → Bool) (n : Nat), y = .str c ∧ H4 D = some (TextsO P w D S n) ∧ n + 1 < scanBound ∧ W (i + 1) (upd H4 D (TextsO P w D (fun j => S j || decide (j = c)) (if S c = true then n else n + 1))) else W (i + 1) H3
section
variable {X : Cx} {pins : List (Addr × Obj)} {σ : L2.St} {s : Shared} {H : Hp} {elt tg iter : Expr} {ifs : List Expr} {scope : Scope} {own : List (PySem.Str × Nat)} {pos : Pos} {g : TG} {tt : TT} {te : TE} {J : It} {it D : Addr} {fp : List Addr} {tn : Nat → Heap → Prop} {N : Nat} {W : Nat → Hp → Prop} {R : Result → Shared → Prop}
/-- what holds ahead of turn i, in the block -/
def Ahead (Y : Cx) (ρ : L2.St) (tn : Nat → Heap → Prop) (fp : List Addr) (W : Nat → Hp → Prop) (i : Nat) (s : Shared) : Prop := ∃ H, Inv Y [] ρ H s ∧ tn i s.heap ∧ (∀ b ∈ fp, H b = none) ∧ W i H
set_option maxHeartbeats 1000000 in
theorem texts_turn {C : Addr} {cl : List (PySem.Str × Addr)} (calm : X.calm = true) (B : InBlock X scope tg ifs elt g tt te) (T : Turn X.prog X.w X.K tg J fp it tn)
    (step : ∀ i H, i < N → W i H → J.go i H ∧ ∀ x H', J.yld i H x H' → g x (wipe σ (own.map (·.2))) H' fun σ2 H2 => wipe σ2 (own.map (·.2)) = wipe σ (own.map (·.2)) ∧ tt σ2 H2 fun b H3 =>
      if b = true then te σ2 H3 fun y H4 => ∃ (c : Str) (S : Str → Bool) (n : Nat), y = .str c ∧ H4 D = some (TextsO X.prog X.w D S n) ∧ n + 1 < scanBound ∧ W (i + 1) (upd H4 D (TextsO X.prog X.w D (fun j => S j || decide (j = c)) (if S c = true then n else n + 1))) else W (i + 1) H3)
    {i : Nat} (hi : i < N) {s1 : Shared} (ahead : Ahead (X.blk s H scope (compEnvC scope cl C X.env) fp) (wipe σ (own.map (·.2))) tn fp W i s1) {E : Value → Shared → Prop} {Z : Shared → Prop} (next : ∀ s', Ahead (X.blk s H scope (compEnvC scope cl C X.env) fp) (wipe σ (own.map (·.2))) tn fp W (i + 1) s' → Z s') :
    wpAny (model X.prog X.w) X.A (pyNext (.ref it)) (fun r s1 => ∃ u, r = some u ∧ wpAny (model X.prog X.w) X.A (letOwnedTupleGo tg (.ref it) u) (fun _ s1' => wpAny (model X.prog X.w) X.A (assign tg (compEnvC scope cl C X.env) u) (fun _ s2 =>
      wpAny (model X.prog X.w) X.A (forIn ifs true fun c r => if r = true then do let ok ← isTrue c (compEnvC scope cl C X.env) (eval c (compEnvC scope cl C X.env)); pure (ForInStep.yield ok) else pure (ForInStep.yield r)) (fun ok s3 =>
        if ok = true then wpAny (model X.prog X.w) X.A (eval elt (compEnvC scope cl C X.env)) (fun x s4 => wpAny (model X.prog X.w) X.A (call (.builtin "set.add") [.ref D, x]) (fun _ s5 => Z s5) E s4) E s3
        else Z s3) E s2) E s1') E s1) E s1 := by
  obtain ⟨H1, I1, st, free, w1⟩ := ahead
  obtain ⟨go, yields⟩ := step i H1 hi w1
  have clear : ∀ {ρ : L2.St} {H' : Hp} {s' : Shared}, Inv (X.blk s H scope (compEnvC scope cl C X.env) fp) [] ρ H' s' → (∀ b ∈ fp, H' b = none) → ∀ b ∈ fp, FpOk (X.blk s H scope (compEnvC scope cl C X.env) fp) [] H' b := fun I' n b hb =>
    have away := I'.ok.exf b hb
    ⟨n b hb, away.1, I'.ok.exfs b hb, .inl hb, fun x c e => away.2 x c e, fun p hp => nomatch (show p ∈ ([] : List (Addr × Obj)) from hp)⟩
  refine thnF (T.item (X.blk s H scope (compEnvC scope cl C X.env) fp) rfl rfl rfl calm i [] s1 _ H1 (fun _ _ => False) I1 (clear I1 free) st go) fun r s2 ⟨u, er, stored⟩ => ⟨u, er, thnF stored fun _ s3 ⟨x, H3, I3, rx, told, st3, free3⟩ => ?_⟩
  refine thnF ((B.target s H C cl fp).run _ s3 _ H3 x u _ (I3.pinned (clear I3 free3) (T.obj _ _ st3)) rx (yields x H3 told)) fun _ s4 ⟨σ4, H4, I4, same, q4⟩ => thnF ((B.tests s H C cl fp).run _ s4 σ4 H4 _ I4 q4) fun b s5 ⟨H5, I5, q5⟩ => ?_
  have close : ∀ {s' : Shared} {H' : Hp}, Inv (X.blk s H scope (compEnvC scope cl C X.env) fp) ([] ++ pinsAt fp s3.heap) σ4 H' s' → W (i + 1) H' → Ahead (X.blk s H scope (compEnvC scope cl C X.env) fp) (wipe σ (own.map (·.2))) tn fp W (i + 1) s' := fun {s' H'} I' w' => by
    have still : ∀ b ∈ fp, ∀ o, s3.heap.get? b = some o → s'.heap.get? b = some o ∧ H' b = none := fun b hb o e => by
      have z := I'.pin (b, o) (List.mem_append_right _ (List.mem_append_right _ (mem_pinsAt hb e)))
      exact ⟨z.1, z.2.1⟩
    refine ⟨H', I'.unpinned.weak (by rw [← same, wipe_length]) fun j v e => (wipe_some (same ▸ e)).1, T.keep _ _ _ st3 fun b hb o e => (still b hb o e).1, fun b hb => ?_, w'⟩
    obtain ⟨o, e, _⟩ := T.obj _ _ st3 b hb
    exact (still b hb o e).2
  cases b with
  | false => exact next _ (close I5 q5)
  | true =>
    refine thnF ((B.item s H C cl fp).run _ s5 σ4 H5 _ I5 q5) fun z s6 ⟨y, H6, I6, rz, c, S, n, ey, at6, room, w6⟩ => ?_
    subst ey
    obtain ⟨tk, rfl⟩ : ∃ tk, z = Value.str c tk := rz
    exact texts_add (X := X.blk s H scope (compEnvC scope cl C X.env) fp) I6 at6 room fun s7 I7 => next _ (close I7 w6)
end
section
variable {X : Cx} {pins : List (Addr × Obj)} {σ : L2.St} {s : Shared} {H : Hp} {Q : VK} {elt tg iter : Expr} {ifs : List Expr} {scope : Scope} {own : List (PySem.Str × Nat)} {pos : Pos} {g : TG} {tt : TT} {te : TE} {J : It} {it D : Addr} {fp : List Addr} {tn : Nat → Heap → Prop} {N : Nat} {W : Nat → Hp → Prop}
set_option maxHeartbeats 1000000 in
/-- all turns, from the new block on -/
theorem texts_run (calm : X.calm = true) (nd : X.N.Nodup) (I : Inv X pins σ H s) (ok : BlkOk X.N X.env.scope scope own) (B : InBlock X scope tg ifs elt g tt te) (T : Turn X.prog X.w X.K tg J fp it tn)
    (free : ∀ b ∈ fp, FpOk X pins H b ∧ b < s.heap.objs.size) (st : tn 0 s.heap) (w0 : W 0 H) (ends : ∀ H, W N H → J.stop N H ∧ Q (.ref D) H)
    (step : ∀ i H, i < N → W i H → J.go i H ∧ ∀ x H', J.yld i H x H' → g x (wipe σ (own.map (·.2))) H' fun σ2 H2 => wipe σ2 (own.map (·.2)) = wipe σ (own.map (·.2)) ∧ tt σ2 H2 fun b H3 =>
      if b = true then te σ2 H3 fun y H4 => ∃ (c : Str) (S : Str → Bool) (n : Nat), y = .str c ∧ H4 D = some (TextsO X.prog X.w D S n) ∧ n + 1 < scanBound ∧ W (i + 1) (upd H4 D (TextsO X.prog X.w D (fun j => S j || decide (j = c)) (if S c = true then n else n + 1))) else W (i + 1) H3) :
    codeAny (model X.prog X.w) X.A (.compStart (.SetComp elt [⟨tg, iter, ifs, 0⟩] scope pos) 0 (.ref it) (.ref D) (compEnvC scope (cellsFrom (s.heap.objs.size + 1) scope.names (cloFrom X.env.cells scope.names [])) s.heap.objs.size X.env))
      (compPost (model X.prog X.w) X.A X.xe none (EP X pins σ Q) (.ref D) s.heap.objs.size) { s with heap := pushCells (s.heap.push { cls := .type "dict", data := .dict #[] }) scope.names } := by
  have I1 := block_start I ok nd free
  have kept : ∀ b o, s.heap.get? b = some o → (pushCells (s.heap.push { cls := .type "dict", data := .dict #[] }) scope.names).get? b = some o := fun b o e => pushCells_keeps _ _ _ _ (Heap.get?_push_of_some _ e)
  have st1 : tn 0 (pushCells (s.heap.push { cls := .type "dict", data := .dict #[] }) scope.names) := T.keep _ _ _ st fun b _ o e => kept b o e
  have loop : codeAny (model X.prog X.w) X.A (.compLoop (.SetComp elt [⟨tg, iter, ifs, 0⟩] scope pos) 0 (.ref it) (.ref D) (compEnvC scope (cellsFrom (s.heap.objs.size + 1) scope.names (cloFrom X.env.cells scope.names [])) s.heap.objs.size X.env))
      (compPost (model X.prog X.w) X.A X.xe none (EP X pins σ Q) (.ref D) s.heap.objs.size) { s with heap := pushCells (s.heap.push { cls := .type "dict", data := .dict #[] }) scope.names } := by
    refine PpSet.compLoopS_any (fun m s' => ∃ i, i + m = N ∧ Ahead (X.blk s H scope (compEnvC scope (cellsFrom (s.heap.objs.size + 1) scope.names (cloFrom X.env.cells scope.names [])) s.heap.objs.size X.env) fp) (wipe σ (own.map (·.2))) tn fp W i s') ?_ N ⟨0, Nat.zero_add N, H, I1, st1, fun b hb => (free b hb).1.1, w0⟩
    rintro m s5 ⟨i, im, ahead⟩
    by_cases more : i < N
    · refine thn (texts_turn calm B T step more ahead (Z := fun s' => ∃ m', m' < m ∧ ∃ i, i + m' = N ∧ Ahead _ _ tn fp W i s') fun s' a => ⟨m - 1, by omega, i + 1, by omega, a⟩) fun r s6 h => ?_
      obtain ⟨u, rfl, rest⟩ := h
      exact rest
    · obtain rfl : i = N := by omega
      obtain ⟨H5, I5, st5, free5, w5⟩ := ahead
      obtain ⟨stop, q⟩ := ends H5 w5
      refine thnF (T.done (X.blk s H scope (compEnvC scope (cellsFrom (s.heap.objs.size + 1) scope.names (cloFrom X.env.cells scope.names [])) s.heap.objs.size X.env) fp) rfl rfl rfl calm i [] s5 _ H5 (fun _ _ => False) I5 (fun b hb => ⟨free5 b hb, (I5.ok.exf b hb).1, I5.ok.exfs b hb, .inl hb, fun x c e => (I5.ok.exf b hb).2 x c e, fun p hp => nomatch (show p ∈ ([] : List (Addr × Obj)) from hp)⟩) st5 stop) fun r s6 h => ?_
      obtain ⟨rfl, I6⟩ := h
      have I7 : Inv X pins σ H5 s6 := I.call' (ch := fp) I6.os I6.base I6.hok I6.bare fun b hb => by
        obtain ⟨_, c1, _, c3, c4, c5⟩ := (free b hb).1
        exact ⟨c3, c1, c4, c5⟩
      have gone : H5 s.heap.objs.size = none := I6.free
      obtain ⟨m', names, _⟩ := I6.loc
      obtain ⟨c0, c1, _, c3, c4, c5⟩ := I.fpOk (Nat.le_refl _) gone
      exact ⟨m', names, fun h'' only => ⟨.ref D, H5, I7.turned (t' := s6.toks) (fun b o hb e => (only.2 b hb).trans e) c0 c1 c3 c4 c5, rfl, q⟩⟩
  exact PpSet.codeAny_compStart_set loop (T.self X.A 0 _ _ _ st1 loop)
end
set_option maxHeartbeats 1000000 in
theorem pe_texts {X : Cx} {elt tg iter : Expr} {ifs : List Expr} {scope : Scope} {own : List (PySem.Str × Nat)} {pos : Pos} {wi : TI} {g : TG} {tt : TT} {te : TE} (calm : X.calm = true) (nd : X.N.Nodup) (hi : PI X tg iter wi) (ok : BlkOk X.N X.env.scope scope own)
    (B : InBlock X scope tg ifs elt g tt te) (plain : ∀ x, foldedSetIterable iter X.env x = pure x := by intro _; rfl) : PE X (.SetComp elt [⟨tg, iter, ifs, 0⟩] scope pos) (tTexts X.prog X.w wi g tt te (own.map (·.2))) where
  run pins s σ H Q I told := by
    rw [PpSet.eval_SetComp]
    have closes : ∀ y ∈ scope.names, y.2 = .free → ∃ c, X.env.cells.lookup y.1 = some c := fun y hy e => (ok.free y hy e).elim (fun k => I.ok.has _ (.inl k)) fun k => I.ok.has _ (.inr k)
    refine wpAny_comprehension_free rfl plain (closure_ok closes) ok.kind (fun y hy e => by rw [ok.uniq y hy, e]) (thn (hi.run pins s σ H _ I told) fun _ _ comes => thn comes fun _ s2 ⟨it, fp, tn, J, H2, eit, I2, T, st2, free2, turns⟩ => ?_)
    subst eit
    refine PpSet.newSet_ok (newEnv_comp ?_)
    have unused : H2 s2.heap.objs.size = none := I2.hok.fresh (Nat.le_refl _)
    obtain ⟨N, W, w0, ends, step⟩ := turns _ unused
    have below : ∀ b ∈ fp, b < s2.heap.objs.size := fun b hb => (T.obj _ _ st2 b hb).elim fun o z => Heap.lt_size z.1
    have I3 := I2.laid (t' := s2.toks) (fun b o e => Heap.get?_push_of_some _ e) (Nat.le_refl _) (texts_new (P := X.prog) (w := X.w) SetL.none)
    exact texts_run calm nd I3 ok B T (fun b hb => ⟨⟨by rw [upd_ne (Nat.ne_of_lt (below b hb))]; exact (free2 b hb).1, (free2 b hb).2⟩, by show b < (s2.heap.push _).objs.size; rw [Heap.size_push]; exact Nat.lt_succ_of_lt (below b hb)⟩)
      (T.keep _ _ _ st2 fun b _ o e => Heap.get?_push_of_some _ e) w0 ends step
end Xci

namespace Xci
open PySem L2
def top (i : Nat) : Stmt := PySem.Challenge.pw_sameforms_k17_questions_of_books_refused.main.body.getD i (.Pass ⟨0, 0, 0, 0⟩)
end Xci

namespace Xci
open PySem L2
/-! ### data and promises of the law's draws -/
def Sq (K : PySem.W.Frag) (H : Hp) (p : Addr) (xs : List V) : Prop := SqL K H p xs ∨ SqT K H p xs
theorem Sq.fr {K : PySem.W.Frag} {a p : Addr} {H H' : Hp} {xs : List V} (s : Sq K H p xs) (f : Fr a H H') (n : p ≠ a) : Sq K H' p xs := by
  rcases s with ((h | ⟨o, h⟩) | h) | ((h | ⟨o, h⟩) | h)
  · exact .inl (.inl (.inl (f _ _ h n)))
  · exact .inl (.inl (.inr ⟨o, f _ _ h n⟩))
  · exact .inl (.inr h)
  · exact .inr (.inl (.inl (f _ _ h n)))
  · exact .inr (.inl (.inr ⟨o, f _ _ h n⟩))
  · exact .inr (.inr h)
theorem Sq.tup {K : PySem.W.Frag} {H : Hp} {p : Addr} {xs : List V} (h : H p = some (.tup xs)) : Sq K H p xs := .inr (.inl (.inl h))
theorem Sq.lst {K : PySem.W.Frag} {H : Hp} {p : Addr} {xs : List V} (h : H p = some (.lst xs)) : Sq K H p xs := .inl (.inl (.inl h))
theorem sqT {K : PySem.W.Frag} {H : Hp} {p : Addr} {xs : List V} (h : H p = some (.tup xs)) : SqT K H p xs := .inl (.inl h)
theorem sqT_same {K : PySem.W.Frag} {H H' : Hp} {p : Addr} {xs : List V} (s : SqT K H p xs) (f : Same H H') : SqT K H' p xs := by
  rcases s with (h | ⟨o, h⟩) | h
  · exact .inl (.inl (f _ _ h))
  · exact .inl (.inr ⟨o, f _ _ h⟩)
  · exact .inr h
/-- tracked: a list or a tuple of xs at p -/
def Sq0 (H : Hp) (p : Addr) (xs : List V) : Prop := H p = some (.lst xs) ∨ H p = some (.tup xs)
theorem Sq0.fr {a p : Addr} {H H' : Hp} {xs : List V} (s : Sq0 H p xs) (f : Fr a H H') (n : p ≠ a) : Sq0 H' p xs := s.imp (fun h => f _ _ h n) (fun h => f _ _ h n)
theorem Sq0.same {p : Addr} {H H' : Hp} {xs : List V} (s : Sq0 H p xs) (f : Same H H') : Sq0 H' p xs := s.imp (fun h => f _ _ h) (fun h => f _ _ h)
theorem Sq0.put {p q : Addr} {H : Hp} {o : HO} {xs : List V} (s : Sq0 H p xs) (n : p ≠ q) : Sq0 (upd H q o) p xs := s.imp (fun h => by rw [upd_ne n]; exact h) (fun h => by rw [upd_ne n]; exact h)
theorem Sq0.sq {K : PySem.W.Frag} {p : Addr} {H : Hp} {xs : List V} (s : Sq0 H p xs) : Sq K H p xs := s.elim Sq.lst Sq.tup
theorem Sq0.ne {p q : Addr} {H : Hp} {xs : List V} (s : Sq0 H p xs) (h : H q = Option.none) : p ≠ q := s.elim (fun e => ne_of_none e h) (fun e => ne_of_none e h)
structure WordOk (z : Str) : Prop where
  lo : 1 ≤ z.length
  hi : z.length ≤ 8
  az : ∀ c ∈ z.cps.toList, 97 ≤ c ∧ c ≤ 122
structure MarksOk (n : Int) (ms : List Int) : Prop where
  up : ms.Pairwise (· < ·)
  lo : ∀ m ∈ ms, 0 ≤ m
  hi : ∀ m ∈ ms, m < n
theorem MarksOk.sub {n : Int} {ms ks : List Int} (h : MarksOk n ms) (s : ks.Sublist ms) : MarksOk n ks := ⟨h.up.sublist s, fun m q => h.lo m (s.subset q), fun m q => h.hi m (s.subset q)⟩
theorem MarksOk.le {n n' : Int} {ms : List Int} (h : MarksOk n ms) (l : n ≤ n') : MarksOk n' ms := ⟨h.up, h.lo, fun m q => by have := h.hi m q; omega⟩
/-- v is a tuple of the ints ms -/
abbrev Mk (H : Hp) (v : V) (ms : List Int) : Prop := Tup H v (ms.map V.int)
theorem Mk.keep {H H' : Hp} {v : V} {ms : List Int} (f : TFr H H') (t : Xci.Mk H v ms) : Xci.Mk H' v ms := Tup.keep f t
/-- the tuples of ints vs -/
abbrev Mks (H : Hp) (vs : List V) (cs : List (List Int)) : Prop := Paired (fun v ms => Xci.Mk H v ms) vs cs
theorem Mks.keep {H H' : Hp} {vs : List V} {cs : List (List Int)} (f : TFr H H') (t : Mks H vs cs) : Mks H' vs cs := Paired.mapP t fun _ _ h => Tup.keep f h
theorem Paired.get {α β : Type} {F : α → β → Prop} : ∀ {xs : List α} {ys : List β} {i : Nat} {x : α}, Paired F xs ys → xs[i]? = some x → ∃ y, ys[i]? = some y ∧ F x y
  | _, _, _, _, .nil, e => by simp at e
  | _, _, 0, _, .cons r _, e => by simp at e; subst e; exact ⟨_, rfl, r⟩
  | _, _, i + 1, x, .cons _ t, e => by
    obtain ⟨u, h1, h2⟩ := Paired.get (i := i) (x := x) t (by simpa using e)
    exact ⟨u, by simpa using h1, h2⟩
theorem Paired.get' {α β : Type} {F : α → β → Prop} : ∀ {xs : List α} {ys : List β} {i : Nat} {y : β}, Paired F xs ys → ys[i]? = some y → ∃ x, xs[i]? = some x ∧ F x y
  | _, _, _, _, .nil, e => by simp at e
  | _, _, 0, _, .cons r _, e => by simp at e; subst e; exact ⟨_, rfl, r⟩
  | _, _, i + 1, x, .cons _ t, e => by
    obtain ⟨u, h1, h2⟩ := Paired.get' (i := i) (y := x) t (by simpa using e)
    exact ⟨u, by simpa using h1, h2⟩
theorem Paired.app {α β : Type} {F : α → β → Prop} : ∀ {xs xs' : List α} {ys ys' : List β}, Paired F xs ys → Paired F xs' ys' → Paired F (xs ++ xs') (ys ++ ys')
  | _, _, _, _, .nil, s => s
  | _, _, _, _, .cons r t, s => .cons r (Paired.app t s)
theorem Paired.one {α β : Type} {F : α → β → Prop} {x : α} {y : β} (h : F x y) : Paired F [x] [y] := .cons h .nil
theorem Paired.take {α β : Type} {F : α → β → Prop} : ∀ {xs : List α} {ys : List β} (n : Nat), Paired F xs ys → Paired F (xs.take n) (ys.take n)
  | _, _, 0, _ => .nil
  | _, _, _ + 1, .nil => .nil
  | _, _, n + 1, .cons r t => .cons r (Paired.take n t)
theorem Paired.perm {α β : Type} {F : α → β → Prop} {xs xs' : List α} (p : xs'.Perm xs) : ∀ {ys : List β}, Paired F xs ys → ∃ ys', Paired F xs' ys' ∧ ys'.Perm ys := by
  induction p with
  | nil => intro ys h; exact ⟨ys, h, .refl _⟩
  | cons x _ ih =>
    intro ys h
    cases h with
    | cons r t =>
      obtain ⟨ys', h', p'⟩ := ih t
      exact ⟨_, .cons r h', p'.cons _⟩
  | swap x y l =>
    intro ys h
    cases h with
    | cons r t =>
      cases t with
      | cons r' t' => exact ⟨_, .cons r' (.cons r t'), .swap _ _ _⟩
  | trans _ _ ih1 ih2 =>
    intro ys h
    obtain ⟨y1, h1, p1⟩ := ih2 h
    obtain ⟨y2, h2, p2⟩ := ih1 h1
    exact ⟨y2, h2, p2.trans p1⟩
/-- the rest of a list, by the removal of one -/
theorem perm_erase {α : Type} : ∀ {xs : List α} {k : Nat} {y : α}, xs[k]? = some y → (xs.eraseIdx k ++ [y]).Perm xs
  | [], _, _, h => by simp at h
  | a :: r, 0, y, h => by
    have e : a = y := Option.some.inj h
    subst e
    exact List.perm_append_singleton _ _
  | a :: r, k + 1, y, h => by
    have ih := perm_erase (xs := r) (k := k) (y := y) h
    exact ih.cons a
def lots (ns : List Int) : List (List Int) := ns.foldl (fun acc x => acc ++ acc.map (· ++ [x])) [[]]
theorem lots_snoc (ns : List Int) (x : Int) : lots (ns ++ [x]) = lots ns ++ (lots ns).map (· ++ [x]) := by
  unfold lots
  rw [List.foldl_append]
  rfl
theorem snoc_ind {α : Type} {M : List α → Prop} (h0 : M []) (h1 : ∀ l x, M l → M (l ++ [x])) : ∀ l, M l := by
  have : ∀ l : List α, M l.reverse := by
    intro l
    induction l with
    | nil => exact h0
    | cons x l ih => rw [List.reverse_cons]; exact h1 _ _ ih
  intro l
  have q := this l.reverse
  rw [List.reverse_reverse] at q
  exact q
theorem lots_len (ns : List Int) : (lots ns).length = 2 ^ ns.length := by
  refine snoc_ind (M := fun ns => (lots ns).length = 2 ^ ns.length) rfl (fun l x ih => ?_) ns
  rw [lots_snoc, List.length_append, List.length_map, List.length_append, ih, List.length_singleton, Nat.pow_succ]
  omega
theorem lots_sub {ns ms : List Int} : ms ∈ lots ns → ms.Sublist ns := by
  refine snoc_ind (M := fun ns => ∀ ms, ms ∈ lots ns → ms.Sublist ns) (fun ms h => ?_) (fun l x ih ms h => ?_) ns ms
  · have : ms = [] := by simpa [lots] using h
    subst this
    exact .slnil
  · rw [lots_snoc] at h
    rcases List.mem_append.mp h with h | h
    · exact (ih ms h).trans (List.sublist_append_left _ _)
    · obtain ⟨k, hk, rfl⟩ := List.mem_map.mp h
      exact (ih k hk).append_right _
theorem lots_nd {ns : List Int} (h : ns.Nodup) : (lots ns).Nodup := by
  revert h
  refine snoc_ind (M := fun ns => ns.Nodup → (lots ns).Nodup) (fun _ => by decide) (fun l x ih h => ?_) ns
  obtain ⟨h1, _, h3⟩ := List.nodup_append.mp h
  rw [lots_snoc]
  refine List.nodup_append.mpr ⟨ih h1, ?_, fun a ha b hb e => ?_⟩
  · unfold List.Nodup
    rw [List.pairwise_map]
    exact (ih h1).imp fun n e => n (List.append_cancel_right e)
  · obtain ⟨k, hk, rfl⟩ := List.mem_map.mp hb
    subst e
    have : x ∈ l := (lots_sub ha).subset (by simp)
    exact h3 x this x (by simp) rfl
def spDeck (K : PySem.W.Frag) : Sp := fun vs H Q _ => ∃ (a : Addr) (ns : List Int), vs = [.ref a] ∧ SqL K H a (ns.map V.int) ∧ ns.length ≤ 63 ∧ ∀ (d l : Addr) (H' : Hp), Deck H' d l → Same H H' → Q (.ref d) H'
def spMixed (K : PySem.W.Frag) : Sp := fun vs H Q _ => ∃ (a l p : Addr) (xs : List V), vs = [.ref a, .ref p] ∧ Deck H a l ∧ Sq K H p xs ∧ xs.length ≤ 1000 ∧
  ∀ (q : Addr) (ys : List V) (H' : Hp), ys.Perm xs → H' q = some (.lst ys) → H q = Option.none → Deck H' a l → Fr a H H' → Q (.ref q) H'
def spWord : Sp := fun vs H Q _ => ∃ a l : Addr, vs = [.ref a] ∧ Deck H a l ∧ ∀ (z : Str) (H' : Hp), WordOk z → Deck H' a l → Fr a H H' → Q (.str z) H'
def spWords : Sp := fun vs H Q _ => ∃ (a l : Addr) (m : Int), vs = [.ref a, .int m] ∧ Deck H a l ∧ 0 < m ∧ m ≤ 1000 ∧
  ∀ (q : Addr) (zs : List Str) (H' : Hp), zs ≠ [] → (zs.length : Int) ≤ m → zs.Nodup → (∀ z ∈ zs, WordOk z) → H' q = some (.lst (zs.map V.str)) → H q = Option.none → Deck H' a l → Fr a H H' → Q (.ref q) H'
def spLots (K : PySem.W.Frag) : Sp := fun vs H Q _ => ∃ (p : Addr) (ns : List Int), vs = [.ref p] ∧ SqT K H p (ns.map V.int) ∧ ns.length ≤ 6 ∧
  ∀ (q : Addr) (ys : List V) (H' : Hp), H' q = some (.lst ys) → Mks H' ys (lots ns) → Same H H' → H q = Option.none → Q (.ref q) H'
structure FamOk (many : Int) (cells : List (List Int)) : Prop where
  lo : 0 ≤ many
  hi : many ≤ 6
  ne : cells ≠ []
  len : cells.length ≤ 24
  nd : cells.Nodup
  ok : ∀ c ∈ cells, MarksOk many c
def spFamily : Sp := fun vs H Q _ => ∃ a l : Addr, vs = [.ref a] ∧ Deck H a l ∧
  ∀ (v : V) (p : Addr) (many : Int) (ys : List V) (cells : List (List Int)) (H' : Hp), Tup H' v [.int many, .ref p] → H' p = some (.tup ys) → Mks H' ys cells → FamOk many cells → Deck H' a l → Fr a H H' → Q v H'
def spMarks (K : PySem.W.Frag) : Sp := fun vs H Q _ => ∃ (a l p : Addr) (ys : List V) (cells : List (List Int)), vs = [.ref a, .ref p] ∧ Deck H a l ∧ p ≠ a ∧ Sq0 H p ys ∧ Mks H ys cells ∧ cells ≠ [] ∧ cells.length ≤ 1000 ∧ (∀ c ∈ cells, MarksOk 6 c) ∧
  ∀ (v : V) (ms : List Int) (H' : Hp), Xci.Mk H' v ms → MarksOk 6 ms → Deck H' a l → Fr a H H' → Q v H'
abbrev Ent : Type := List Int × Str
def EntV (H : Hp) (v : V) (e : Ent) : Prop := ∃ u, Tup H v [u, .str e.2] ∧ Xci.Mk H u e.1
theorem EntV.keep {H H' : Hp} {v : V} {e : Ent} (f : TFr H H') (t : EntV H v e) : EntV H' v e := by
  obtain ⟨u, h, g⟩ := t
  exact ⟨u, h.keep f, Tup.keep f g⟩
structure EntOk (e : Ent) : Prop where
  ms : MarksOk 6 e.1
  w : WordOk e.2
abbrev Ents (H : Hp) (vs : List V) (es : List Ent) : Prop := Paired (fun v e => EntV H v e) vs es
theorem Ents.keep {H H' : Hp} {vs : List V} {es : List Ent} (f : TFr H H') (t : Ents H vs es) : Ents H' vs es := Paired.mapP t fun _ _ h => EntV.keep f h
def spEntries (K : PySem.W.Frag) : Sp := fun vs H Q _ => ∃ (a l p q : Addr) (ys : List V) (cells : List (List Int)) (zs : List Str) (m : Int), vs = [.ref a, .ref p, .ref q, .int m] ∧ Deck H a l ∧ p ≠ a ∧ Sq0 H p ys ∧ Mks H ys cells ∧ cells ≠ [] ∧ cells.length ≤ 1000 ∧ (∀ c ∈ cells, MarksOk 6 c) ∧
  H q = some (.lst (zs.map V.str)) ∧ q ≠ a ∧ zs ≠ [] ∧ zs.length ≤ 1000 ∧ (∀ z ∈ zs, WordOk z) ∧ 0 ≤ m ∧ m ≤ 1000 ∧
  ∀ (r : Addr) (vs' : List V) (es : List Ent) (H' : Hp), H' r = some (.tup vs') → Ents H' vs' es → (es.length : Int) ≤ m → (∀ e ∈ es, EntOk e) → Deck H' a l → Fr a H H' → Q (.ref r) H'
theorem int_of {ns : List Int} {i : Nat} {y : V} (h : (ns.map V.int)[i]? = some y) : ∃ z, ns[i]? = some z ∧ y = V.int z := by
  rw [List.getElem?_map] at h
  cases e : ns[i]? with
  | none => rw [e] at h; cases h
  | some z => rw [e] at h; exact ⟨z, rfl, (Option.some.inj h).symm⟩
theorem mod_bd (x : Int) {m : Int} (h : 0 < m) : 0 ≤ x % m ∧ x % m < m := ⟨Int.emod_nonneg _ (by omega), Int.emod_lt_of_pos _ h⟩
theorem cut63 (ns : List Int) : cutV (ns.map V.int) none (some 63) = (ns.take 63).map V.int := by
  unfold cutV
  have e0 : HT.sIx (ns.map V.int).length 0 none = 0 := rfl
  rw [e0]
  have e1 : HT.sIx (ns.map V.int).length (ns.map V.int).length (some 63) = min 63 ns.length := by
    unfold HT.sIx
    simp
    try omega
  rw [e1, List.drop_zero, List.map_take]
  simp only [Nat.sub_zero]
  rw [Nat.min_comm]
  by_cases h : ns.length ≤ 63
  · rw [Nat.min_eq_left h, List.take_of_length_le (by simp), List.take_of_length_le (by simpa using h)]
  · rw [Nat.min_eq_right (by omega)]

def inside (ms ns : List Int) : Bool := ms.all fun m => decide (m ∈ ns)
theorem asc_len {n : Int} : ∀ {ms : List Int} {lo : Int}, ms.Pairwise (· < ·) → (∀ m ∈ ms, lo ≤ m ∧ m < n) → ms.length ≤ (n - lo).toNat
  | [], _, _, _ => Nat.zero_le _
  | m :: r, lo, hp, hb => by
    obtain ⟨h1, h2⟩ := List.pairwise_cons.mp hp
    have b := hb m (by simp)
    have ih := asc_len (n := n) (ms := r) (lo := m + 1) h2 fun k hk => ⟨by have := h1 k hk; omega, (hb k (List.mem_cons_of_mem _ hk)).2⟩
    rw [List.length_cons]
    omega
theorem MarksOk.len {n : Int} {ms : List Int} (h : MarksOk n ms) : ms.length ≤ n.toNat := by
  have := asc_len (n := n) (lo := 0) h.up fun m hm => ⟨h.lo m hm, h.hi m hm⟩
  simpa using this
theorem inV_int (m : Int) (ns : List Int) : inV (.int m) (ns.map V.int) = decide (m ∈ ns) := by
  unfold inV
  rw [List.any_map]
  induction ns with
  | nil => rfl
  | cons a r ih =>
    rw [List.any_cons, ih]
    show ((a == m) || decide (m ∈ r)) = decide (m ∈ a :: r)
    by_cases h : a = m
    · subst h; simp
    · have h' : ¬ m = a := fun e => h e.symm
      simp [h, h']
theorem inV_str (m : Str) (ns : List Str) : inV (.str m) (ns.map V.str) = decide (m ∈ ns) := by
  unfold inV
  rw [List.any_map]
  induction ns with
  | nil => rfl
  | cons a r ih =>
    rw [List.any_cons, ih]
    show ((a == m) || decide (m ∈ r)) = decide (m ∈ a :: r)
    by_cases h : a = m
    · subst h; simp
    · have h' : ¬ m = a := fun e => h e.symm
      simp [h, h']
theorem flat_ints (ns : List Int) : (ns.map V.int).all flatV = true := by
  rw [List.all_map]; exact List.all_eq_true.mpr fun _ _ => rfl
theorem flat_strs (ns : List Str) : (ns.map V.str).all flatV = true := by
  rw [List.all_map]; exact List.all_eq_true.mpr fun _ _ => rfl
theorem str_of {ns : List Str} {i : Nat} {y : V} (h : (ns.map V.str)[i]? = some y) : ∃ z, ns[i]? = some z ∧ y = V.str z := by
  rw [List.getElem?_map] at h
  cases e : ns[i]? with
  | none => rw [e] at h; cases h
  | some z => rw [e] at h; exact ⟨z, rfl, (Option.some.inj h).symm⟩
def rng (n : Int) : List Int := (List.range n.toNat).map fun i => ((i : Nat) : Int)
theorem rgV_rng (n : Int) : rgV 0 n = (rng n).map V.int := by
  unfold rgV rng
  rw [List.map_map, Int.sub_zero]
  refine List.map_congr_left fun i _ => ?_
  show V.int (0 + (i : Nat)) = V.int (i : Nat)
  rw [Int.zero_add]
theorem rng_len (n : Int) : (rng n).length = n.toNat := by unfold rng; rw [List.length_map, List.length_range]
theorem rng_ok (n : Int) : MarksOk n (rng n) := by
  refine ⟨?_, fun m hm => ?_, fun m hm => ?_⟩
  · unfold rng
    rw [List.pairwise_map]
    exact List.pairwise_lt_range.imp fun h => by omega
  · obtain ⟨i, hi, rfl⟩ := List.mem_map.mp hm
    omega
  · obtain ⟨i, hi, rfl⟩ := List.mem_map.mp hm
    have := List.mem_range.mp hi
    omega
theorem MarksOk.nd {n : Int} {ms : List Int} (h : MarksOk n ms) : ms.Nodup := h.up.imp fun h e => by omega
def spIn : Sp := fun vs H Q _ => ∃ (u v : V) (ms ns : List Int), vs = [u, v] ∧ Xci.Mk H u ms ∧ Xci.Mk H v ns ∧ ms.length ≤ 1000 ∧ ∀ H', Same H H' → Q (.bl (inside ms ns)) H'
end Xci

namespace Xci
open PySem L2
/-! ### books -/
/-- the numbers that the top has written -/
structure Cst (mg : Str → Option Value) where
  t1 : Tok
  t2 : Tok
  t3 : Tok
  t4 : Tok
  LONGEST_FORM : mg "LONGEST_FORM" = some (.int 8 t1)
  MARKS : mg "MARKS" = some (.int 6 t2)
  MOST_ENTRIES : mg "MOST_ENTRIES" = some (.int 40 t3)
  MOST_WEIGHT : mg "MOST_WEIGHT" = some (.int 1000000 t4)
/-- the class Book, the tuple of the manners -/
structure BkTxt (K : PySem.W.Frag) (mg : Str → Option Value) (C aM : Addr) : Prop where
  cl : Cls K C
  nM : NoAttr K C "manner"
  nE : NoAttr K C "entries"
  nW : NoAttr K C "weights"
  mgC : mg "Book" = some (.ref C)
  mgM : mg "MANNERS" = some (.ref aM)
  man : ∀ H : Hp, SqT K H aM [.str "row", .str "within", .str "weights", .str "most"]
def bf (man : Str) (p : Addr) (wt : V) : List (Str × V) := [("manner", .str man), ("entries", .ref p), ("weights", wt)]
theorem n_me : ¬ (("manner" : Str) = "entries") := by decide +kernel
theorem n_mw : ¬ (("manner" : Str) = "weights") := by decide +kernel
theorem n_ew : ¬ (("entries" : Str) = "weights") := by decide +kernel
theorem n_em : ¬ (("entries" : Str) = "manner") := by decide +kernel
theorem n_wm : ¬ (("weights" : Str) = "manner") := by decide +kernel
theorem n_we : ¬ (("weights" : Str) = "entries") := by decide +kernel
theorem put1 (v : V) : putF "manner" v [] = [(("manner" : Str), v)] := rfl
theorem put2 (v u : V) : putF "entries" u [(("manner" : Str), v)] = [(("manner" : Str), v), (("entries" : Str), u)] := by
  show (if ("manner" : Str) = "entries" then _ else (("manner" : Str), v) :: putF "entries" u []) = _
  rw [if_neg n_me]; rfl
theorem put3 (v u x : V) : putF "weights" x [(("manner" : Str), v), (("entries" : Str), u)] = [(("manner" : Str), v), (("entries" : Str), u), (("weights" : Str), x)] := by
  show (if ("manner" : Str) = "weights" then _ else (("manner" : Str), v) :: (if ("entries" : Str) = "weights" then _ else (("entries" : Str), u) :: putF "weights" x [])) = _
  rw [if_neg n_mw, if_neg n_ew]; rfl
theorem bf_manner (man : Str) (p : Addr) (wt : V) : (bf man p wt).lookup ("manner" : Str) = some (.str man) := by
  unfold bf
  rw [List.lookup_cons, show ((Str.ofString "manner" : Str) == Str.ofString "manner") = true from by decide +kernel]
theorem bf_entries (man : Str) (p : Addr) (wt : V) : (bf man p wt).lookup ("entries" : Str) = some (.ref p) := by
  unfold bf
  rw [List.lookup_cons, show ((Str.ofString "entries" : Str) == Str.ofString "manner") = false from by decide +kernel]
  rfl
theorem bf_weights (man : Str) (p : Addr) (wt : V) : (bf man p wt).lookup ("weights" : Str) = some wt := by
  unfold bf
  rw [List.lookup_cons, show ((Str.ofString "weights" : Str) == Str.ofString "manner") = false from by decide +kernel, List.lookup_cons, show ((Str.ofString "weights" : Str) == Str.ofString "entries") = false from by decide +kernel]
  rfl
def BookAt (C : Addr) (H : Hp) (b : Addr) (man : Str) (p : Addr) (wt : V) : Prop := ∃ dx, H b = some (.ins C dx (bf man p wt))
/-- the weights that go with the manner -/
def WtOk (H : Hp) (man : Str) (wt : V) : Prop := (man ≠ "weights" ∧ wt = .non) ∨ (man = "weights" ∧ ∃ ws : List Int, Xci.Mk H wt ws ∧ ws.length = 6 ∧ ∀ x ∈ ws, 0 ≤ x ∧ x ≤ 1000000)
theorem WtOk.keep {H H' : Hp} {man : Str} {wt : V} (f : TFr H H') (h : WtOk H man wt) : WtOk H' man wt := by
  rcases h with h | ⟨e, ws, m, r⟩
  · exact .inl h
  · exact .inr ⟨e, ws, Tup.keep f m, r⟩
def Man (man : Str) : Prop := man = "row" ∨ man = "within" ∨ man = "weights" ∨ man = "most"
def spIsInteger : Sp := fun vs H Q _ => ∃ i : Int, vs = [.int i] ∧ Q (.bl true) H
def spBetween : Sp := fun vs H Q _ => ∃ lo hi x : Int, vs = [.int lo, .int hi, .int x] ∧ Q (.bl (decide (lo ≤ x ∧ x ≤ hi))) H
def spIsCell : Sp := fun vs H Q _ => ∃ (n : Int) (v : V) (ms : List Int), vs = [.int n, v] ∧ Xci.Mk H v ms ∧ MarksOk n ms ∧ Q (.bl true) H
def spIsForm : Sp := fun vs H Q _ => ∃ z : Str, vs = [.str z] ∧ WordOk z ∧ Q (.bl true) H
def spLies : Sp := fun vs H Q _ => ∃ (u v : V) (ms ns : List Int), vs = [u, v] ∧ Xci.Mk H u ms ∧ Xci.Mk H v ns ∧ Q (.bl (inside ms ns)) H
def spIsEntry : Sp := fun vs H Q _ => ∃ (v : V) (e : Ent), vs = [v] ∧ EntV H v e ∧ EntOk e ∧ Q (.bl true) H
def spAreEntries : Sp := fun vs H Q _ => ∃ (p : Addr) (ys : List V) (es : List Ent), vs = [.ref p] ∧ H p = some (.tup ys) ∧ Ents H ys es ∧ (∀ e ∈ es, EntOk e) ∧ es.length ≤ 40 ∧ Q (.bl true) H
def spAreWeights : Sp := fun vs H Q _ => ∃ (man : Str) (wt : V), vs = [.str man, wt] ∧ WtOk H man wt ∧ Q (.bl true) H
def spBook (C : Addr) : Sp := fun vs H Q _ => ∃ (x dx : Addr) (man : Str) (p : Addr) (wt : V) (ys : List V) (es : List Ent), vs = [.ref x, .str man, .ref p, wt] ∧ H x = some (.ins C dx []) ∧ Man man ∧ WtOk H man wt ∧ H p = some (.tup ys) ∧ Ents H ys es ∧ (∀ e ∈ es, EntOk e) ∧ es.length ≤ 40 ∧
  ∀ H' : Hp, BookAt C H' x man p wt → (∀ b o, H b = some o → b ≠ x → H' b = some o) → Q .non H'
/-- the entries that fit a cell, by their numbers -/
def fitP (es : List Ent) (ms : List Int) (i : Nat) : Bool := match es[i]? with
  | some e => inside e.1 ms
  | none => false
def fitN (es : List Ent) (ms : List Int) : List Nat := (List.range es.length).filter (fitP es ms)
def nat2 (js : List Nat) : List Int := js.map fun j => ((j : Nat) : Int)
def spFits (K : PySem.W.Frag) : Sp := fun vs H Q _ => ∃ (p : Addr) (v : V) (ys : List V) (es : List Ent) (ms : List Int), vs = [.ref p, v] ∧ H p = some (.tup ys) ∧ Ents H ys es ∧ (∀ e ∈ es, EntOk e) ∧ es.length ≤ 1000 ∧ Xci.Mk H v ms ∧
  ∀ (q : Addr) (H' : Hp), H' q = some (.lst ((nat2 (fitN es ms)).map V.int)) → Same H H' → Q (.ref q) H'
def spFitting (C : Addr) : Sp := fun vs H Q _ => ∃ (b p : Addr) (man : Str) (wt v : V) (ys : List V) (es : List Ent) (ms : List Int), vs = [.ref b, v] ∧ BookAt C H b man p wt ∧ H p = some (.tup ys) ∧ Ents H ys es ∧ (∀ e ∈ es, EntOk e) ∧ es.length ≤ 40 ∧ Xci.Mk H v ms ∧ MarksOk 6 ms ∧
  ∀ (q : Addr) (H' : Hp), H' q = some (.tup ((nat2 (fitN es ms)).map V.int)) → Same H H' → Q (.ref q) H'
def hd1 : List Nat → V
  | [] => .non
  | j :: _ => .int (j : Int)
def spSpeakingRow (C : Addr) : Sp := fun vs H Q _ => ∃ (b p q : Addr) (wt : V) (js : List Nat), vs = [.ref b, .ref q] ∧ BookAt C H b "row" p wt ∧ H q = some (.tup ((nat2 js).map V.int)) ∧ Q (hd1 js) H
def spk : List Nat → List V
  | [] => [.str "none"]
  | j :: _ => [.str "entry", .int (j : Int)]
def spSpeakerRow (C : Addr) : Sp := fun vs H Q _ => ∃ (b p : Addr) (wt v : V) (ys : List V) (es : List Ent) (ms : List Int), vs = [.ref b, v] ∧ BookAt C H b "row" p wt ∧ H p = some (.tup ys) ∧ Ents H ys es ∧ (∀ e ∈ es, EntOk e) ∧ es.length ≤ 40 ∧ Xci.Mk H v ms ∧ MarksOk 6 ms ∧
  ∀ (u : V) (H' : Hp), Tup H' u (spk (fitN es ms)) → Same H H' → Q u H'
def spSpeaksRow (K : PySem.W.Frag) : Sp := fun vs H Q _ => ∃ (p : Addr) (v : V) (ys : List V) (es : List Ent) (ms : List Int), vs = [.str "row", .ref p, .non, v] ∧ H p = some (.tup ys) ∧ Ents H ys es ∧ (∀ e ∈ es, EntOk e) ∧ es.length ≤ 1000 ∧ Xci.Mk H v ms ∧
  ∀ (u : V) (H' : Hp), Tup H' u (spk (fitN es ms)) → Same H H' → Q u H'
def flat0 : V → Bool
  | .int _ => true
  | .str _ => true
  | _ => false
def spLike0 : Sp := fun vs H Q _ => ∃ x : V, vs = [x, x] ∧ flat0 x = true ∧ ∀ H', Same H H' → Q (.bl true) H'
def spLike1 : Sp := fun vs H Q _ => ∃ (u v : V) (xs : List V), vs = [u, v] ∧ Tup H u xs ∧ Tup H v xs ∧ xs.all flat0 = true ∧ xs.length ≤ 1000 ∧ ∀ H', Same H H' → Q (.bl true) H'
theorem fit_take (es : List Ent) (ms : List Int) (i : Nat) : (List.range (i + 1)).filter (fitP es ms) = (List.range i).filter (fitP es ms) ++ if fitP es ms i = true then [i] else [] := by
  rw [List.range_succ, List.filter_append, List.filter_cons, List.filter_nil]
theorem nat2_app (xs ys : List Nat) : nat2 (xs ++ ys) = nat2 xs ++ nat2 ys := List.map_append
theorem fitP_at {es : List Ent} {ms : List Int} {i : Nat} {e : Ent} (h : es[i]? = some e) : fitP es ms i = inside e.1 ms := by unfold fitP; rw [h]
theorem fit_len (es : List Ent) (ms : List Int) (i : Nat) : (nat2 ((List.range i).filter (fitP es ms))).length ≤ i := by
  unfold nat2
  rw [List.length_map]
  exact Nat.le_trans (List.length_filter_le _ _) (by rw [List.length_range]; exact Nat.le_refl _)
theorem isi_tl {K : PySem.W.Frag} {a : String} (h1 : kitB a "tuple" = some false) (h2 : kitB a "list" = some false) : PySem.W.kitAny K (.type a) [.type "tuple", .type "list"] = some false :=
  kitAny_cons (b := false) (kit_ty h1) (fun _ => kitAny_cons (b := false) (kit_ty h2) (fun _ => kitAny_nil) (fun h => by cases h)) (fun h => by cases h)
theorem isi_tup {K : PySem.W.Frag} : PySem.W.kitAny K (.type "tuple") [.type "tuple", .type "list"] = some true :=
  kitAny_cons (b := true) (kit_ty (by decide +kernel)) (fun h => by cases h) (fun _ => rfl)
def toD : V → PyData
  | .int i => .int i
  | .str x => .str x
  | _ => .none
theorem dp_one {K : PySem.W.Frag} {H : Hp} {x : V} (h : flat0 x = true) : Dp K H x (toD x) := by
  cases x with
  | int i => exact .int i
  | str z => exact .str z
  | non => cases h
  | bl _ => cases h
  | byt _ => cases h
  | flt _ => cases h
  | ref _ => cases h
  | ty _ => cases h
theorem dp_all {K : PySem.W.Frag} {H : Hp} : ∀ {xs : List V}, xs.all flat0 = true → DpAll K H xs (xs.map toD)
  | [], _ => .nil
  | x :: r, h => by
    rw [List.all_cons, Bool.and_eq_true] at h
    exact .cons (dp_one h.1) (dp_all h.2)
theorem dp_tup {K : PySem.W.Frag} {H : Hp} {v : V} {xs : List V} (t : Tup H v xs) (h : xs.all flat0 = true) : Dp K H v (.tuple (xs.map toD)) := by
  obtain ⟨p, rfl, hp⟩ := t
  exact .tup (sqT hp) (dp_all h)
theorem sh1 : SeqAt.shaped (.tuple [.str "none"]) = true := by decide +kernel
theorem sh2 (i : Int) : SeqAt.shaped (.tuple [.str "entry", .int i]) = true := by
  have h : PyData.canLay0 (.str "entry") = true := by decide +kernel
  simp [SeqAt.shaped, PyData.canLay0, PyData.canLayAll0, PyData.depth, PyData.depthAll]
  simp [PyData.canLay0] at h
  exact h
theorem eqv1 (z : Str) : PyData.eqv (.tuple [.str z]) (.tuple [.str z]) = true := by
  simp [PyData.eqv, PyData.eqvAll]
theorem eqv2 (z : Str) (i j : Int) : PyData.eqv (.tuple [.str z, .int i]) (.tuple [.str z, .int j]) = decide (i = j) := by
  simp [PyData.eqv, PyData.eqvAll]
  try rw [Bool.eq_iff_iff]; simp

theorem fit_cons (e : Ent) (es : List Ent) (ms : List Int) : fitN (e :: es) ms = (if inside e.1 ms = true then [0] else []) ++ (fitN es ms).map (· + 1) := by
  unfold fitN
  rw [List.length_cons, List.range_succ_eq_map, List.filter_cons, List.filter_map]
  have h0 : fitP (e :: es) ms 0 = inside e.1 ms := rfl
  have h1 : (fitP (e :: es) ms ∘ Nat.succ) = fitP es ms := rfl
  rw [h0, h1]
  split <;> rfl
theorem fit_snoc (e : Ent) (es : List Ent) (ms : List Int) : fitN (es ++ [e]) ms = fitN es ms ++ (if inside e.1 ms = true then [es.length] else []) := by
  unfold fitN
  rw [List.length_append, List.length_singleton, List.range_succ, List.filter_append]
  have h0 : fitP (es ++ [e]) ms es.length = inside e.1 ms := by
    unfold fitP
    rw [List.getElem?_append_right (Nat.le_refl _), Nat.sub_self]
    rfl
  rw [List.filter_cons, List.filter_nil, h0]
  congr 1
  refine List.filter_congr fun i hi => ?_
  unfold fitP
  rw [List.getElem?_append_left (List.mem_range.mp hi)]
theorem cat_of {K : PySem.W.Frag} {H : Hp} {xs ys : List V} {a b : Addr} {Q : V → Hp → Prop} (ha : H a = some (.tup xs)) (hb : H b = some (.tup ys)) (hl : xs.length + ys.length ≤ sizeLine)
    (G : ∀ t H', H' t = some (.tup (xs ++ ys)) → Same H H' → Q (.ref t) H') : rCatA K (.ref a) (.ref b) H Q := by
  refine ⟨a, b, xs, ys, rfl, rfl, sqT ha, sqT hb, hl, fun e => ?_, fun _ e => ?_, fun _ _ p hp => ?_⟩
  · subst e
    exact G b H hb (Same.refl H)
  · subst e
    exact G a H (by rw [List.append_nil]; exact ha) (Same.refl H)
  · exact G p _ upd_same (Same.new hp)
theorem spk_flat (js : List Nat) : (spk js).all flat0 = true := by cases js <;> rfl
theorem spk_len (js : List Nat) : (spk js).length ≤ 1000 := by
  cases js with
  | nil => exact (by decide : 1 ≤ 1000)
  | cons j r => exact (by decide : 2 ≤ 1000)
theorem spk_sh (js : List Nat) : SeqAt.shaped (.tuple ((spk js).map toD)) = true := by
  cases js with
  | nil => exact sh1
  | cons j r => exact sh2 _
theorem spk_eqv (js : List Nat) : PyData.eqv (.tuple ((spk js).map toD)) (.tuple ((spk js).map toD)) = true := by
  cases js with
  | nil => exact eqv1 _
  | cons j r =>
    show PyData.eqv (.tuple [.str "entry", .int (j : Int)]) (.tuple [.str "entry", .int (j : Int)]) = true
    rw [eqv2]
    exact decide_eq_true rfl
theorem Same.tfr {H H' : Hp} (f : Same H H') : TFr H H' := TFr.same f
end Xci

namespace Xci
open PySem PySem.Spec PyProof.Rows L2
/-- the numbers that families.py names -/
structure FamCst (mg : Str → Option Value) where
  t1 : Tok
  t2 : Tok
  MOST_MARKS : mg "MOST_MARKS" = some (.int 6 t1)
  MOST_CELLS : mg "MOST_CELLS" = some (.int 24 t2)
/-- the class of families -/
structure FamTxt (K : PySem.W.Frag) (mg : Str → Option Value) (C : Addr) : Prop where
  cl : Cls K C
  nM : NoAttr K C "many"
  nC : NoAttr K C "cells"
  mgC : mg "Family" = some (.ref C)
def famF (many : Int) (p : Addr) : List (Str × V) := [("many", .int many), ("cells", .ref p)]
theorem n_mc : ¬ (("many" : Str) = "cells") := by decide +kernel
theorem putMany (v : V) : putF "many" v [] = [(("many" : Str), v)] := rfl
theorem putCells (v u : V) : putF "cells" u [(("many" : Str), v)] = [(("many" : Str), v), (("cells" : Str), u)] := by
  show (if ("many" : Str) = "cells" then _ else (("many" : Str), v) :: putF "cells" u []) = _
  rw [if_neg n_mc] <;> rfl
theorem famF_many (many : Int) (p : Addr) : (famF many p).lookup ("many" : Str) = some (.int many) := by
  unfold famF
  rw [List.lookup_cons, show ((Str.ofString "many" : Str) == Str.ofString "many") = true from by decide +kernel]
theorem famF_cells (many : Int) (p : Addr) : (famF many p).lookup ("cells" : Str) = some (.ref p) := by
  unfold famF
  rw [List.lookup_cons, show ((Str.ofString "cells" : Str) == Str.ofString "many") = false from by decide +kernel]
  rfl
/-- at b a family of so many marks with the cells at p -/
def FamAt (C : Addr) (H : Hp) (b : Addr) (many : Int) (p : Addr) : Prop := ∃ dx, H b = some (.ins C dx (famF many p))
def spAreCells : Sp := fun vs H Q _ => ∃ (many : Int) (p : Addr) (ys : List V) (cells : List (List Int)), vs = [.int many, .ref p] ∧ H p = some (.tup ys) ∧ Mks H ys cells ∧ FamOk many cells ∧ Q (.bl true) H
def spFam (C : Addr) : Sp := fun vs H Q _ => ∃ (x dx : Addr) (many : Int) (p : Addr) (ys : List V) (cells : List (List Int)), vs = [.ref x, .int many, .ref p] ∧ H x = some (.ins C dx []) ∧ H p = some (.tup ys) ∧ Mks H ys cells ∧ FamOk many cells ∧
  ∀ H' : Hp, FamAt C H' x many p → (∀ b o, H b = some o → b ≠ x → H' b = some o) → Q .non H'
/-- cells, each with the address at which it stands -/
theorem Mks.placed {K : PySem.W.Frag} {H : Hp} : ∀ {ys : List V} {cells : List (List Int)}, Mks H ys cells → ∃ ks : List (Addr × List Int), ys = ks.map (fun p => .ref p.1) ∧ ks.map (·.2) = cells ∧ ∀ p ∈ ks, SqT K H p.1 (p.2.map V.int)
  | _, _, .nil => ⟨[], rfl, rfl, nofun⟩
  | _, _, .cons ⟨a, e, h⟩ t => by
    obtain ⟨ks, e1, e2, e3⟩ := Mks.placed (K := K) t
    refine ⟨(a, _) :: ks, by rw [List.map_cons, ← e1, e], by rw [List.map_cons, e2], fun p hp => ?_⟩
    rcases List.mem_cons.mp hp with z | z
    · rw [z]; exact sqT h
    · exact e3 p z
end Xci

namespace Xci
open PySem PySem.Spec PyProof.Rows L2
/-- a form of a table, or none -/
def formV : Option Str → V
  | some z => .str z
  | none => .non
/-- the unlike forms, rising -/
structure Rising (fs : List (Option Str)) (zs : List Str) : Prop where
  up : sortedS zs = true
  all : ∀ z, z ∈ zs ↔ some z ∈ fs
  nd : zs.Nodup
def spUnlike : Sp := fun vs H Q _ => ∃ (p : Addr) (fs : List (Option Str)), vs = [.ref p] ∧ H p = some (.tup (fs.map formV)) ∧ fs.length < 64 ∧ ∀ (q : Addr) (zs : List Str) (H' : Hp), Rising fs zs → H' q = some (.lst (zs.map V.str)) → Same H H' → Q (.ref q) H'
/-- the class of tables -/
structure TabTxt (K : PySem.W.Frag) (mg : Str → Option Value) (C : Addr) : Prop where
  cl : Cls K C
  nF : NoAttr K C "family"
  nO : NoAttr K C "forms"
  mgC : mg "Table" = some (.ref C)
structure FormCst (mg : Str → Option Value) where
  t1 : Tok
  LONGEST_FORM : mg "LONGEST_FORM" = some (.int 8 t1)
structure TabCst (mg : Str → Option Value) where
  t1 : Tok
  MOST_FORMS : mg "MOST_FORMS" = some (.int 12 t1)
/-- the forms that a table of so many cells can have -/
structure FormsOk (n : Nat) (fs : List (Option Str)) : Prop where
  len : fs.length = n
  few : n ≤ 24
  word : ∀ z, some z ∈ fs → WordOk z
  unlike : ∀ zs, Rising fs zs → zs.length ≤ 12
def spAreForms : Sp := fun vs H Q _ => ∃ (n : Nat) (p : Addr) (fs : List (Option Str)), vs = [.int n, .ref p] ∧ H p = some (.tup (fs.map formV)) ∧ FormsOk n fs ∧ ∀ H', Same H H' → Q (.bl true) H'
def tabF (fam p : Addr) : List (Str × V) := [("family", .ref fam), ("forms", .ref p)]
theorem n_ff : ¬ (("family" : Str) = "forms") := by decide +kernel
theorem putFamily (v : V) : putF "family" v [] = [(("family" : Str), v)] := rfl
theorem putForms (v u : V) : putF "forms" u [(("family" : Str), v)] = [(("family" : Str), v), (("forms" : Str), u)] := by
  show (if ("family" : Str) = "forms" then _ else (("family" : Str), v) :: putF "forms" u []) = _
  rw [if_neg n_ff] <;> rfl
theorem tabF_family (fam p : Addr) : (tabF fam p).lookup ("family" : Str) = some (.ref fam) := by
  unfold tabF
  rw [List.lookup_cons, show ((Str.ofString "family" : Str) == Str.ofString "family") = true from by decide +kernel]
theorem tabF_forms (fam p : Addr) : (tabF fam p).lookup ("forms" : Str) = some (.ref p) := by
  unfold tabF
  rw [List.lookup_cons, show ((Str.ofString "forms" : Str) == Str.ofString "family") = false from by decide +kernel]
  rfl
/-- at b a table of the family at fam with the forms at p -/
def TabAt (C : Addr) (H : Hp) (b fam p : Addr) : Prop := ∃ dx, H b = some (.ins C dx (tabF fam p))
def spTab (CF C : Addr) : Sp := fun vs H Q _ => ∃ (x dx fam : Addr) (many : Int) (pc : Addr) (ys : List V) (p : Addr) (fs : List (Option Str)), vs = [.ref x, .ref fam, .ref p] ∧ H x = some (.ins C dx []) ∧ FamAt CF H fam many pc ∧ x ≠ fam ∧ H pc = some (.tup ys) ∧ H p = some (.tup (fs.map formV)) ∧ FormsOk ys.length fs ∧
  ∀ H' : Hp, TabAt C H' x fam p → (∀ b o, H b = some o → b ≠ x → H' b = some o) → Q .non H'
def spSpoken (C : Addr) : Sp := fun vs H Q _ => ∃ (b fam p : Addr) (fs : List (Option Str)), vs = [.ref b] ∧ TabAt C H b fam p ∧ H p = some (.tup (fs.map formV)) ∧ fs.length < 64 ∧
  ∀ (r : Addr) (zs : List Str) (H' : Hp), Rising fs zs → H' r = some (.tup (zs.map V.str)) → Same H H' → Q (.ref r) H'
def spIsSpoken (C : Addr) : Sp := fun vs H Q _ => ∃ (b fam p : Addr) (fs : List (Option Str)) (z : Str), vs = [.ref b, .str z] ∧ TabAt C H b fam p ∧ H p = some (.tup (fs.map formV)) ∧ some z ∈ fs ∧ Q (.bl true) H
/-- the numbers of the cells with this form -/
def spots (fs : List (Option Str)) (z : Str) : List Nat := (List.range fs.length).filter fun i => decide (fs[i]? = some (some z))
def spCellsOf (C : Addr) : Sp := fun vs H Q _ => ∃ (b fam p : Addr) (fs : List (Option Str)) (z : Str), vs = [.ref b, .str z] ∧ TabAt C H b fam p ∧ H p = some (.tup (fs.map formV)) ∧ fs.length < 64 ∧ some z ∈ fs ∧
  ∀ (r : Addr) (H' : Hp), H' r = some (.tup ((nat2 (spots fs z)).map V.int)) → Same H H' → Q (.ref r) H'
theorem forms_flat (fs : List (Option Str)) : (fs.map formV).all flatV = true := by
  rw [List.all_eq_true]
  intro x hx
  obtain ⟨f, _, rfl⟩ := List.mem_map.mp hx
  cases f <;> rfl
theorem forms_in {fs : List (Option Str)} {z : Str} (h : some z ∈ fs) : inV (.str z) (fs.map formV) = true := by
  unfold inV
  rw [List.any_eq_true]
  refine ⟨.str z, List.mem_map.mpr ⟨some z, h, rfl⟩, ?_⟩
  show eqV (.str z) (.str z) = true
  simp [eqV]
theorem form_scal (f : Option Str) (z : Str) : scal (formV f) (.str z) = true := by cases f <;> rfl
theorem form_is (f : Option Str) (z : Str) : decide (formV f = V.str z) = decide (f = some z) := by
  cases f with
  | none => rfl
  | some y =>
    rw [decide_eq_decide]
    constructor
    · intro h
      injection h with h
      rw [h]
    · intro h
      injection h with h
      rw [h]
      rfl
/-- the spots among the first i cells -/
def spotsTo (fs : List (Option Str)) (z : Str) (i : Nat) : List Nat := (List.range i).filter fun j => decide (fs[j]? = some (some z))
theorem spots_next {fs : List (Option Str)} {z : Str} {i : Nat} {f : Option Str} (e : fs[i]? = some f) : spotsTo fs z (i + 1) = spotsTo fs z i ++ (if decide (f = some z) = true then [i] else []) := by
  unfold spotsTo
  rw [List.range_succ, List.filter_append, List.filter_cons, List.filter_nil, e]
  by_cases q : f = some z
  · rw [if_pos (decide_eq_true q), if_pos (decide_eq_true (congrArg some q))]
  · rw [if_neg (fun h => q (of_decide_eq_true h)), if_neg (fun h => q (Option.some.inj (of_decide_eq_true h)))]
theorem spots_few (fs : List (Option Str)) (z : Str) (i : Nat) : (spotsTo fs z i).length ≤ i := by
  have h := List.length_filter_le (fun j => decide (fs[j]? = some (some z))) (List.range i)
  rw [List.length_range] at h
  exact h
/-- the marks that all cells with this form have -/
def sharedIn (cells : List (List Int)) (fs : List (Option Str)) (z : Str) (m : Int) : Bool := (spots fs z).all fun i => match cells[i]? with
  | some c => decide (m ∈ c)
  | none => true
def spCommon (CF C : Addr) : Sp := fun vs H Q _ => ∃ (b fam p : Addr) (fs : List (Option Str)) (z : Str) (many : Int) (pc : Addr) (ys : List V) (cells : List (List Int)), vs = [.ref b, .str z] ∧ TabAt C H b fam p ∧ H p = some (.tup (fs.map formV)) ∧ FamAt CF H fam many pc ∧ H pc = some (.tup ys) ∧ Mks H ys cells ∧ FamOk many cells ∧ fs.length = cells.length ∧ some z ∈ fs ∧
  ∀ (r : Addr) (ms : List Int) (H' : Hp), H' r = some (.tup (ms.map V.int)) → MarksOk many ms → (∀ m, m ∈ ms ↔ 0 ≤ m ∧ m < many ∧ sharedIn cells fs z m = true) → Same H H' → Q (.ref r) H'
theorem spots_at {fs : List (Option Str)} {z : Str} {j : Nat} : j ∈ spots fs z ↔ fs[j]? = some (some z) := by
  unfold spots
  rw [List.mem_filter, List.mem_range, decide_eq_true_eq]
  exact ⟨fun h => h.2, fun h => ⟨(List.getElem?_eq_some_iff.mp h).1, h⟩⟩
theorem spots_ne {fs : List (Option Str)} {z : Str} (h : some z ∈ fs) : spots fs z ≠ [] := fun e => by
  obtain ⟨j, hj⟩ := List.mem_iff_getElem?.mp h
  have := spots_at.mpr hj
  rw [e] at this
  cases this
theorem spots_len (fs : List (Option Str)) (z : Str) : (spots fs z).length ≤ fs.length := spots_few fs z fs.length
/-- the cells with these numbers -/
def cellsAt (cells : List (List Int)) (js : List Nat) : List (List Int) := js.map fun j => cells.getD j []
theorem cells_placed {H : Hp} {ys : List V} {cells : List (List Int)} (each : Mks H ys cells) : ∀ (js : List Nat), (∀ j ∈ js, j < cells.length) → Mks H (js.map fun j => ys.getD j .non) (cellsAt cells js)
  | [], _ => .nil
  | j :: js, h => by
    have lt := h j List.mem_cons_self
    have len := Paired.length each
    obtain ⟨c, e, m⟩ := Paired.get each (List.getElem?_eq_getElem (show j < ys.length by omega))
    refine .cons ?_ (cells_placed each js fun k hk => h k (List.mem_cons_of_mem _ hk))
    show Xci.Mk H (ys.getD j .non) (cells.getD j [])
    rw [List.getD_eq_getElem?_getD, List.getD_eq_getElem?_getD, e, List.getElem?_eq_getElem (show j < ys.length by omega)]
    exact m
theorem shared_all {cells : List (List Int)} {fs : List (Option Str)} {z : Str} {m : Int} (size : fs.length = cells.length) : sharedIn cells fs z m = (cellsAt cells (spots fs z)).all fun c => decide (m ∈ c) := by
  unfold sharedIn cellsAt
  rw [List.all_map, Bool.eq_iff_iff, List.all_eq_true, List.all_eq_true]
  have one : ∀ j ∈ spots fs z, cells[j]? = some (cells.getD j []) := fun j hj => by
    have lt : j < cells.length := by have := (List.getElem?_eq_some_iff.mp (spots_at.mp hj)).1; omega
    rw [List.getD_eq_getElem?_getD, List.getElem?_eq_getElem lt] <;> rfl
  constructor
  · intro h j hj
    have := h j hj
    rw [one j hj] at this
    exact this
  · intro h j hj
    rw [one j hj]
    exact h j hj
/-- not after -/
def upTo (a b : Str) : Prop := a.cps.toList ≤ b.cps.toList
theorem upTo_of {a b : Str} (h : ltCps b.cps.toList a.cps.toList = false) : upTo a b := by
  rw [ltCps_eq] at h
  exact List.not_lt.mp (of_decide_eq_false h)
theorem rising_pairs : ∀ (x : Str) (r : List Str), risingS x r = true → (∀ y ∈ r, upTo x y) ∧ r.Pairwise upTo
  | _, [], _ => ⟨nofun, .nil⟩
  | x, y :: r, h => by
    have h' : (!ltCps y.cps.toList x.cps.toList && risingS y r) = true := h
    rw [Bool.and_eq_true, Bool.not_eq_true'] at h'
    obtain ⟨a, b⟩ := h'
    obtain ⟨c, d⟩ := rising_pairs y r b
    have xy := upTo_of a
    refine ⟨fun z hz => ?_, List.pairwise_cons.mpr ⟨c, d⟩⟩
    rcases List.mem_cons.mp hz with e | hz
    · rw [e]; exact xy
    · exact List.le_trans xy (c z hz)
theorem sorted_pairs : ∀ (l : List Str), sortedS l = true → l.Pairwise upTo
  | [], _ => .nil
  | x :: r, h => List.pairwise_cons.mpr (rising_pairs x r h)
theorem str_ext {a b : Str} (h : a.cps.toList = b.cps.toList) : a = b := by
  obtain ⟨⟨x⟩⟩ := a
  obtain ⟨⟨y⟩⟩ := b
  have e : x = y := h
  rw [e]
/-- the unlike forms of a table, rising, are one list -/
theorem Rising.one {fs : List (Option Str)} {xs ys : List Str} (h : Rising fs xs) (k : Rising fs ys) : xs = ys :=
  List.Perm.eq_of_pairwise (le := upTo) (fun a b _ _ p q => str_ext (List.le_antisymm p q)) (sorted_pairs xs h.up) (sorted_pairs ys k.up)
    ((List.perm_ext_iff_of_nodup h.nd k.nd).mpr fun z => (h.all z).trans (k.all z).symm)
theorem MarksOk.one {n n' : Int} {xs ys : List Int} (h : MarksOk n xs) (k : MarksOk n' ys) (same : ∀ m, m ∈ xs ↔ m ∈ ys) : xs = ys :=
  List.Perm.eq_of_pairwise (le := (· < ·)) (fun a b _ _ p q => by omega) h.up k.up ((List.perm_ext_iff_of_nodup h.nd k.nd).mpr same)
end Xci

namespace Xci
open PySem L2
/-! ### who speaks, by a relation «beats» -/
inductive Res where
  | none
  | ent (j : Nat)
  | qua (l : List Nat)
/-- n is in js and beats all others -/
def Win (js : List Nat) (beat : Nat → Nat → Bool) (n : Nat) : Prop := n ∈ js ∧ ∀ o ∈ js, o ≠ n → beat n o = true
structure Beat (beat : Nat → Nat → Bool) : Prop where
  irr : ∀ n, beat n n = false
  asy : ∀ n o, beat n o = true → beat o n = false
def winC (js : List Nat) (beat : Nat → Nat → Bool) (n : Nat) : Bool := decide ((js.filter (beat n)).length + 1 = js.length)
def maxB (js : List Nat) (beat : Nat → Nat → Bool) (n : Nat) : Bool := !js.any fun o => beat o n
def lawRes (js : List Nat) (beat : Nat → Nat → Bool) : Res :=
  if js = [] then .none else match js.find? (winC js beat) with
    | some n => .ent n
    | none => .qua (js.filter (maxB js beat))
theorem filt_add {α : Type} (p : α → Bool) : ∀ l : List α, (l.filter p).length + (l.filter fun x => !p x).length = l.length
  | [] => rfl
  | x :: r => by
    have ih := filt_add p r
    rw [List.filter_cons, List.filter_cons]
    cases h : p x
    · simp only [Bool.not_false, if_true, Bool.false_eq_true, if_false, List.length_cons]
      omega
    · simp only [Bool.not_true, if_true, Bool.false_eq_true, if_false, List.length_cons]
      omega
theorem filt_one {α : Type} [DecidableEq α] {p : α → Bool} {l : List α} {n : α} (hn : l.Nodup) (hm : n ∈ l) (hp : p n = true) : (l.filter p).length = 1 ↔ ∀ o ∈ l, o ≠ n → p o = false := by
  constructor
  · intro h o ho hne
    cases q : p o with
    | false => rfl
    | true =>
      obtain ⟨x, hx⟩ := List.length_eq_one_iff.mp h
      have h1 : n ∈ l.filter p := List.mem_filter.mpr ⟨hm, hp⟩
      have h2 : o ∈ l.filter p := List.mem_filter.mpr ⟨ho, q⟩
      rw [hx] at h1 h2
      rw [List.mem_singleton] at h1 h2
      exact absurd (h2.trans h1.symm) hne
  · intro h
    have nd : (l.filter p).Nodup := List.Sublist.nodup List.filter_sublist hn
    have h1 : n ∈ l.filter p := List.mem_filter.mpr ⟨hm, hp⟩
    have h2 : ∀ o ∈ l.filter p, o = n := fun o ho => by
      obtain ⟨a, b⟩ := List.mem_filter.mp ho
      by_cases e : o = n
      · exact e
      · rw [h o a e] at b; cases b
    match hl : l.filter p with
    | [] => rw [hl] at h1; cases h1
    | [x] => rfl
    | x :: y :: r =>
      rw [hl] at h2 nd
      have e1 := h2 x (by simp)
      have e2 := h2 y (by simp)
      rw [e1, e2] at nd
      exact absurd (by simp) (List.nodup_cons.mp nd).1
theorem winC_iff {js : List Nat} {beat : Nat → Nat → Bool} (B : Beat beat) (hn : js.Nodup) {n : Nat} (hm : n ∈ js) : winC js beat n = true ↔ Win js beat n := by
  unfold winC
  rw [decide_eq_true_iff]
  have h1 := filt_add (beat n) js
  have h2 := filt_one (p := fun x => !beat n x) hn hm (by simp [B.irr])
  constructor
  · intro h
    refine ⟨hm, fun o ho hne => ?_⟩
    have := h2.mp (by omega) o ho hne
    simpa using this
  · intro h
    have := h2.mpr fun o ho hne => by simp [h.2 o ho hne]
    omega
theorem Win.uniq {js : List Nat} {beat : Nat → Nat → Bool} (B : Beat beat) {n m : Nat} (h1 : Win js beat n) (h2 : Win js beat m) : n = m := by
  by_cases e : n = m
  · exact e
  · have a := h1.2 m h2.1 (fun q => e q.symm)
    have b := h2.2 n h1.1 e
    rw [B.asy _ _ a] at b
    cases b
theorem lawRes_nil (beat : Nat → Nat → Bool) : lawRes [] beat = .none := rfl
theorem lawRes_ent {js : List Nat} {beat : Nat → Nat → Bool} (B : Beat beat) (hn : js.Nodup) {n : Nat} (h : Win js beat n) : lawRes js beat = .ent n := by
  unfold lawRes
  rw [if_neg (by intro e; rw [e] at h; exact absurd h.1 (by simp))]
  cases q : js.find? (winC js beat) with
  | none =>
    have := List.find?_eq_none.mp q n h.1
    exact absurd ((winC_iff B hn h.1).mpr h) this
  | some m =>
    have h1 := List.find?_some q
    have h2 := List.mem_of_find?_eq_some q
    have e := Win.uniq B h ((winC_iff B hn h2).mp h1)
    rw [e]
theorem lawRes_qua {js : List Nat} {beat : Nat → Nat → Bool} (B : Beat beat) (hn : js.Nodup) (hne : js ≠ []) (h : ∀ n, ¬ Win js beat n) : lawRes js beat = .qua (js.filter (maxB js beat)) := by
  unfold lawRes
  rw [if_neg hne]
  cases q : js.find? (winC js beat) with
  | none => rfl
  | some m =>
    have h1 := List.find?_some q
    have h2 := List.mem_of_find?_eq_some q
    exact absurd ((winC_iff B hn h2).mp h1) (h m)
theorem lawRes_cases {js : List Nat} {beat : Nat → Nat → Bool} (B : Beat beat) (hn : js.Nodup) : (js = [] ∧ lawRes js beat = .none) ∨ (∃ n, Win js beat n ∧ lawRes js beat = .ent n) ∨ (js ≠ [] ∧ (∀ n, ¬ Win js beat n) ∧ lawRes js beat = .qua (js.filter (maxB js beat))) := by
  by_cases e : js = []
  · exact .inl ⟨e, by rw [e]; rfl⟩
  · by_cases h : ∃ n, Win js beat n
    · obtain ⟨n, h⟩ := h
      exact .inr (.inl ⟨n, h, lawRes_ent B hn h⟩)
    · have h' : ∀ n, ¬ Win js beat n := fun n q => h ⟨n, q⟩
      exact .inr (.inr ⟨e, h', lawRes_qua B hn e h'⟩)
/-- the same relation, the same result -/
theorem lawRes_congr {js : List Nat} {b1 b2 : Nat → Nat → Bool} (h : ∀ n ∈ js, ∀ o ∈ js, b1 n o = b2 n o) : lawRes js b1 = lawRes js b2 := by
  have e1 : ∀ n ∈ js, winC js b1 n = winC js b2 n := fun n hn => by
    unfold winC
    rw [List.filter_congr (h n hn)]
  have e2 : ∀ n ∈ js, maxB js b1 n = maxB js b2 n := fun n hn => by
    unfold maxB
    congr 1
    rw [Bool.eq_iff_iff, List.any_eq_true, List.any_eq_true]
    exact ⟨fun ⟨o, ho, q⟩ => ⟨o, ho, by rw [← h o ho n hn]; exact q⟩, fun ⟨o, ho, q⟩ => ⟨o, ho, by rw [h o ho n hn]; exact q⟩⟩
  have e3 : js.find? (winC js b1) = js.find? (winC js b2) := by
    have : ∀ l : List Nat, (∀ n ∈ l, winC js b1 n = winC js b2 n) → l.find? (winC js b1) = l.find? (winC js b2) := by
      intro l
      induction l with
      | nil => intro _; rfl
      | cons x r ih =>
        intro hl
        rw [List.find?_cons, List.find?_cons, hl x (by simp), ih fun n hn => hl n (List.mem_cons_of_mem _ hn)]
    exact this js e1
  unfold lawRes
  rw [e3, List.filter_congr e2]
/-- what the permuted book says -/
inductive Turned (g : Nat → Nat) : Res → Res → Prop
  | none : Turned g .none .none
  | ent (i : Nat) : Turned g (.ent i) (.ent (g i))
  | qua (l' l : List Nat) : (l'.map g).Perm l → Turned g (.qua l') (.qua l)
theorem lawRes_turned {js js' : List Nat} {beat beat' : Nat → Nat → Bool} {g : Nat → Nat} (B : Beat beat) (B' : Beat beat') (hn : js.Nodup) (hp : (js'.map g).Perm js) (hb : ∀ i ∈ js', ∀ o ∈ js', beat' i o = beat (g i) (g o)) : Turned g (lawRes js' beat') (lawRes js beat) := by
  have nd1 : (js'.map g).Nodup := hp.nodup_iff.mpr hn
  have nd' : js'.Nodup := (List.pairwise_map.mp nd1).imp fun h e => h (congrArg g e)
  have inj : ∀ i ∈ js', ∀ o ∈ js', g i = g o → i = o := fun i hi o ho e => by
    obtain ⟨a, ha⟩ := List.getElem?_of_mem hi
    obtain ⟨b, hb⟩ := List.getElem?_of_mem ho
    have q1 : (js'.map g)[a]? = some (g i) := by rw [List.getElem?_map, ha]; rfl
    have q2 : (js'.map g)[b]? = some (g i) := by rw [List.getElem?_map, hb, e]; rfl
    have := nd_ix nd1 q1 q2
    subst this
    exact Option.some.inj (ha.symm.trans hb)
  rcases lawRes_cases B' nd' with ⟨e, r⟩ | ⟨n, h, r⟩ | ⟨e, h, r⟩
  · subst e
    have : js = [] := by
      have := hp.length_eq
      exact List.eq_nil_of_length_eq_zero this.symm
    subst this
    rw [r, lawRes_nil]
    exact .none
  · rw [r, lawRes_ent B hn (n := g n)]
    · exact .ent n
    · refine ⟨hp.subset (List.mem_map_of_mem h.1), fun o ho hne => ?_⟩
      obtain ⟨i, hi, rfl⟩ := List.mem_map.mp (hp.symm.subset ho)
      rw [← hb n h.1 i hi]
      exact h.2 i hi fun e => hne (by rw [e])
  · have hne : js ≠ [] := fun e' => e (by
      rw [e'] at hp
      have := hp.length_eq
      rw [List.length_map] at this
      exact List.eq_nil_of_length_eq_zero this)
    rw [r, lawRes_qua B hn hne fun m hm => ?_]
    · refine .qua _ _ ?_
      have e1 : js'.filter (maxB js' beat') = js'.filter (fun i => maxB js beat (g i)) := by
        refine List.filter_congr fun i hi => ?_
        unfold maxB
        congr 1
        rw [Bool.eq_iff_iff, List.any_eq_true, List.any_eq_true]
        constructor
        · rintro ⟨o, ho, q⟩
          exact ⟨g o, hp.subset (List.mem_map_of_mem ho), by rw [← hb o ho i hi]; exact q⟩
        · rintro ⟨o, ho, q⟩
          obtain ⟨k, hk, rfl⟩ := List.mem_map.mp (hp.symm.subset ho)
          exact ⟨k, hk, by rw [hb k hk i hi]; exact q⟩
      rw [e1]
      have e2 : (js'.filter (fun i => maxB js beat (g i))).map g = (js'.map g).filter (maxB js beat) := by
        rw [List.filter_map]
        rfl
      rw [e2]
      exact hp.filter _
    · obtain ⟨i, hi, rfl⟩ := List.mem_map.mp (hp.symm.subset hm.1)
      refine h i ⟨hi, fun o ho hne => ?_⟩
      rw [hb i hi o ho]
      exact hm.2 (g o) (hp.subset (List.mem_map_of_mem ho)) fun e => hne (inj _ ho _ hi e)
end Xci

namespace Xci
open PySem PySem.Spec PyProof.Rows L2
/-- the tuple at a and the list at b as they stand at each turn, their items in new pairs -/
def ItzM (K : PySem.W.Frag) (a b : Addr) : It :=
  ⟨fun i H => ∃ (xs ys : List V) (x y : V), (SqT K H a xs ∧ SqL K H b ys) ∧ xs[i]? = some x ∧ ys[i]? = some y,
    fun i H v H' => ∃ T x y, v = .ref T ∧ (H T = none ∧ H' = upd H T (.tup [x, y])) ∧ (∀ xs, SqT K H a xs → xs[i]? = some x) ∧ ∀ ys, SqL K H b ys → ys[i]? = some y,
    fun i H => ∃ xs ys : List V, (SqT K H a xs ∧ SqL K H b ys) ∧ xs.length = ys.length ∧ i = xs.length⟩
/-- the state of such a zip at its i-th turn -/
def ZSt (z TI TO i1 i2 a b : Addr) (i : Nat) (h : Heap) : Prop := IsZip h z TI TO .none ∧ IsTupOf2 h TI (.ref i1) (.ref i2) ∧ (∃ p q, IsTupOf2 h TO p q) ∧ h.IsTupleIter i1 a i ∧ h.IsListIter i2 b i
theorem five {c z TI TO i1 i2 : Addr} (h : c ∈ [z, TI, TO, i1, i2]) : c = z ∨ c = TI ∨ c = TO ∨ c = i1 ∨ c = i2 := by simpa using h
theorem ZSt.low {z TI TO i1 i2 a b : Addr} {i : Nat} {h : Heap} (st : ZSt z TI TO i1 i2 a b i h) : ∀ c ∈ [z, TI, TO, i1, i2], c < h.objs.size := by
  obtain ⟨q1, q2, ⟨_, _, q3⟩, ⟨_, q4, _⟩, ⟨_, q5, _⟩⟩ := st
  intro c hc
  rcases five hc with e | e | e | e | e <;> subst e
  · exact Heap.lt_size q1
  · exact Heap.lt_size q2
  · exact Heap.lt_size q3
  · exact Heap.lt_size q4
  · exact Heap.lt_size q5
theorem turn_zipM {P : Program} {w : World} {K : PySem.W.Frag} {elts : List Expr} {kk : Nat} {tpos : Pos} {a b z TI TO i1 i2 : Addr} (S : ZipSep2 z TI TO i1 i2 [i1, a] [i2, b]) (n1 : a ≠ i1) (n2 : b ≠ i2) :
    Turn P w K (.Tuple elts kk tpos) (ItzM K a b) [z, TI, TO, i1, i2] z (ZSt z TI TO i1 i2 a b) where
  mem := by simp
  self := fun _ _ _ _ _ st q => wpAny_pyIter_zip st.1 q
  keep := fun i h h' st k => by
    obtain ⟨q1, q2, ⟨p, q, q3⟩, q4, q5⟩ := st
    exact ⟨k _ (by simp) _ q1, k _ (by simp) _ q2, ⟨p, q, k _ (by simp) _ q3⟩, q4.at fun o e => k _ (by simp) o e, q5.at fun o e => k _ (by simp) o e⟩
  obj := fun i h st c hc => by
    obtain ⟨q1, q2, ⟨_, _, q3⟩, ⟨o4, q4, _, d4⟩, ⟨o5, q5, _, d5⟩⟩ := st
    rcases five hc with e | e | e | e | e <;> subst e
    · exact ⟨_, q1, fun v q => nomatch q⟩
    · exact ⟨_, q2, fun v q => nomatch q⟩
    · exact ⟨_, q3, fun v q => nomatch q⟩
    · exact ⟨o4, q4, fun v q => by rw [d4] at q; cases q⟩
    · exact ⟨o5, q5, fun v q => by rw [d5] at q; cases q⟩
  item := by
    intro X hP hw hK hc i pins s σ H E I hf st hg
    subst hP hw hK
    have low := st.low
    obtain ⟨q1, q2, ⟨p, q, q3⟩, q4, q5⟩ := st
    obtain ⟨xs, ys, x, y, ⟨hx, hy⟩, ex, ey⟩ := hg
    obtain ⟨us, rx, tx, _⟩ := I.tuple hx
    obtain ⟨vs, ry, ty, _⟩ := I.list hy
    obtain ⟨u, eu, ru⟩ := rx.get ex
    obtain ⟨v, ev, rv⟩ := ry.get ey
    have lu : i < us.toArray.size := by simpa using (List.getElem?_eq_some_iff.mp eu).1
    have lv : i < vs.toArray.size := by simpa using (List.getElem?_eq_some_iff.mp ev).1
    have calm : X.A.in1.handled = none := I.ok.hd hc
    refine wpAny_pyNext_zipD2_item (prog := X.prog) (w := X.w) (A := X.A) S (Draws.tuple calm i1 a n1 us.toArray) (Draws.list calm i2 b n2 vs.toArray) q1 q2 q3 ⟨q4, tx⟩ ⟨q5, ty.isList⟩ lu lv fun u' v' h' tk eu' ev' z' TO' s1' s2' hT hsz hk => ?_
    obtain rfl : u' = u := Option.some.inj (eu'.symm.trans (by simpa using eu))
    obtain rfl : v' = v := Option.some.inj (ev'.symm.trans (by simpa using ev))
    refine ⟨_, rfl, wpAny_letOwnedTupleGo_zip (s := { s with heap := h', toks := tk }) z' fun h'' z'' sb => ?_⟩
    have zl : z < s.heap.objs.size := low z (by simp)
    have top : h''.get? s.heap.objs.size = some { cls := .type "tuple", data := .seq #[u', v'] } := (sb.2 _ (Nat.ne_of_gt zl)).trans hT
    have made : ObjOk X.prog X.w (upd H s.heap.objs.size (.tup [x, y])) h'' s.heap.objs.size (.tup [x, y]) := ⟨by show 2 ≤ sizeLine; decide, [u', v'], .cons ru (.cons rv .nil), _, top, rfl, _, rfl⟩
    have all : ∀ c o, c ∉ [z, TI, TO, i1, i2] → s.heap.get? c = some o → h''.get? c = some o := fun c o hb e =>
      (sb.2 c fun e' => hb (by simp [e'])).trans (hk c o (fun e' => hb (by simp [e'])) (fun e' => hb (by simp [e'])) (fun e' => hb (by simp [e'])) (fun e' => hb (by simp [e'])) e)
    have I1 : Inv X pins σ (upd H s.heap.objs.size (.tup [x, y])) { s with heap := h'', toks := tk } := I.turnedNew (ch := [z, TI, TO, i1, i2]) all hf (Nat.le_refl _) made
    refine ⟨.ref s.heap.objs.size, _, I1, rfl, ⟨_, x, y, rfl, ⟨I.hok.fresh (Nat.le_refl _), rfl⟩, fun l hl => by rw [I.tuple_inj hl hx]; exact ex, fun l hl => by rw [I.list_inj hl hy]; exact ey⟩, ⟨z'', ?_, ⟨u', v', ?_⟩, ?_, ?_⟩, fun c hcm => ?_⟩
    · exact (sb.2 _ S.TIz).trans (hk _ _ S.TIz S.TITO S.TIi1 S.TIi2 q2)
    · exact (sb.2 _ S.TOz).trans TO'
    · exact s1'.1.at fun o e => (sb.2 _ (Ne.symm S.zi1)).trans e
    · exact s2'.1.at fun o e => (sb.2 _ (Ne.symm S.zi2)).trans e
    · rw [upd_ne (Nat.ne_of_lt (low c hcm))]
      exact (hf c hcm).1
  done := by
    intro X hP hw hK hc i pins s σ H E I hf st hg
    subst hP hw hK
    obtain ⟨q1, q2, ⟨p, q, q3⟩, q4, q5⟩ := st
    obtain ⟨xs, ys, ⟨hx, hy⟩, el, rfl⟩ := hg
    obtain ⟨us, rx, tx, _⟩ := I.tuple hx
    obtain ⟨vs, ry, ty, _⟩ := I.list hy
    have l1 : xs.length = us.toArray.size := by rw [rx.length]; simp
    have l2 : ys.length = vs.toArray.size := by rw [ry.length]; simp
    have calm : X.A.in1.handled = none := I.ok.hd hc
    exact wpAny_pyNext_zipD2_end (prog := X.prog) (w := X.w) (A := X.A) S (Draws.tuple calm i1 a n1 us.toArray) (Draws.list calm i2 b n2 vs.toArray) q1 q2 q3 ⟨q4, tx⟩ ⟨q5, ty.isList⟩ (by omega) (by omega) (.inl l1) fun h' tk hk =>
      ⟨rfl, I.turnedL (t' := tk) (ch := [z, TI, TO, i1, i2]) (fun c o hb e => hk c o (fun e' => hb (by simp [e'])) (fun e' => hb (by simp [e'])) (fun e' => hb (by simp [e'])) (fun e' => hb (by simp [e'])) e) hf⟩
def iZipM (K : PySem.W.Frag) (ta : TA) : TI := fun σ H R => ta σ H fun vs H1 => ∃ a b xs ys, vs = [.ref a, .ref b] ∧ (SqT K H1 a xs ∧ SqL K H1 b ys) ∧ R (ItzM K a b) H1
theorem pi_zipM {X : Cx} {e e2 : Expr} {ta : TA} {p pos tpos : Pos} {elts : List Expr} {kk : Nat} (hg : Gl X "zip") (hm : X.mg "zip" = none) (ha : PA X [e, e2] ta)
    (hs : starEach [e, e2] X.env = (false, eval e X.env) :: starEach [e2] X.env := by rfl) (hpl : (backTo pos (starEach [e2] X.env)).any (·.1) = false := by rfl) :
    PI X (.Tuple elts kk tpos) (.Call (.Name "zip" p) [e, e2] [] pos) (iZipM X.K ta) := by
  refine ⟨fun pins s σ H R I h => Call_ (ld_blt I hg hm boot_zip (callWith_type1 (thn (ha.run pos pins s σ H _ I h) fun us s1 ⟨vs, H1, I1, r1, q1⟩ => ?_) hs hpl))⟩
  obtain ⟨a, b, xs, ys, rfl, ⟨hx, hy⟩, q⟩ := q1
  obtain ⟨u1, u2, rfl, r, r'⟩ := vals2 r1
  cases r
  cases r'
  obtain ⟨us, rx, tx, _⟩ := I1.tuple hx
  obtain ⟨vs, ry, ty, _⟩ := I1.list hy
  have al : a < s1.heap.objs.size := by obtain ⟨_, e, _⟩ := id tx; exact Heap.lt_size e
  have bl : b < s1.heap.objs.size := by obtain ⟨_, e, _⟩ := id ty.isList; exact Heap.lt_size e
  have sep := zip_sep2 (N := s1.heap.objs.size) (fp1 := [a]) (fp2 := [b]) (fun c hc => by rw [List.mem_singleton.mp hc]; exact al) (fun c hc => by rw [List.mem_singleton.mp hc]; exact bl)
  refine zip_begins2 (begins_tuple a us.toArray) (begins_list b vs.toArray) tx ty.isList fun h' z' TI' TO' o1 o2 hsz hk => wpAny_pyIter_zip z' ?_
  refine ⟨s1.heap.objs.size + 4, [s1.heap.objs.size + 4, s1.heap.objs.size + 2, s1.heap.objs.size + 3, s1.heap.objs.size, s1.heap.objs.size + 1], _, _, H1, rfl, I1.kept (t' := s1.toks) hk, turn_zipM sep (Nat.ne_of_lt al) (Nat.ne_of_lt (Nat.lt_succ_of_lt bl)),
    ⟨z', TI', ⟨_, _, TO'⟩, ⟨_, o1, rfl, rfl⟩, ⟨_, o2, rfl, rfl⟩⟩, fun c hc => ?_, q⟩
  have low : s1.heap.objs.size ≤ c := by
    rcases five hc with e | e | e | e | e <;> rw [e]
    · exact Nat.le_add_right _ _
    · exact Nat.le_add_right _ _
    · exact Nat.le_add_right _ _
    · exact Nat.le_refl _
    · exact Nat.le_add_right _ _
  exact I1.fpOk low (I1.hok.fresh low)
theorem walk_zipM {K : PySem.W.Frag} {a b : Addr} {xs ys : List V} (hl : xs.length = ys.length) : Walk (ItzM K a b) xs.length (fun H => SqT K H a xs ∧ SqL K H b ys) (fun i H v H' => ∃ T x y, v = .ref T ∧ H T = none ∧ H' = upd H T (.tup [x, y]) ∧ xs[i]? = some x ∧ ys[i]? = some y) :=
  ⟨fun i H hi q => ⟨xs, ys, xs[i], ys[i]'(hl ▸ hi), q, List.getElem?_eq_getElem hi, List.getElem?_eq_getElem (hl ▸ hi)⟩, fun H q => ⟨xs, ys, q, hl, rfl⟩, fun i H v H' hi q ⟨T, x, y, e1, ⟨e2, e3⟩, f, g⟩ => ⟨T, x, y, e1, e2, e3, f xs q.1, g ys q.2⟩⟩
end Xci

namespace Xci
open PySem L2
/-! ### the manners -/
def rk (man : Str) (ws : List Int) (ms : List Int) : Int := if man = "weights" then (ms.map fun m => ws.getD m.toNat 0).sum else (ms.length : Int)
def beatM (man : Str) (ws : List Int) (ms ns : List Int) : Bool := if man = "within" then inside ns ms && decide (ns.length < ms.length) else decide (rk man ws ns < rk man ws ms)
def mkA (es : List Ent) (j : Nat) : List Int := match es[j]? with
  | some e => e.1
  | none => []
def beatA (man : Str) (ws : List Int) (es : List Ent) (n o : Nat) : Bool := beatM man ws (mkA es n) (mkA es o)
theorem mkA_at {es : List Ent} {j : Nat} {e : Ent} (h : es[j]? = some e) : mkA es j = e.1 := by unfold mkA; rw [h]
theorem n_ww : ¬ (("within" : Str) = "weights") := by decide +kernel
theorem n_mostw : ¬ (("most" : Str) = "weights") := by decide +kernel
theorem n_mosti : ¬ (("most" : Str) = "within") := by decide +kernel
theorem n_wi : ¬ (("weights" : Str) = "within") := by decide +kernel
theorem beatM_ok (man : Str) (ws : List Int) (ms : List Int) : beatM man ws ms ms = false := by
  unfold beatM
  split
  · simp
  · exact decide_eq_false (by omega)
theorem beatM_asy {man : Str} {ws : List Int} {ms ns : List Int} (h : beatM man ws ms ns = true) : beatM man ws ns ms = false := by
  unfold beatM at h ⊢
  split at h
  · rename_i e
    rw [if_pos e]
    rw [Bool.and_eq_true, decide_eq_true_iff] at h
    have : decide (ms.length < ns.length) = false := decide_eq_false (by omega)
    rw [this, Bool.and_false]
  · rename_i e
    rw [if_neg e]
    rw [decide_eq_true_iff] at h
    exact decide_eq_false (by omega)
theorem beatA_ok (man : Str) (ws : List Int) (es : List Ent) : Beat (beatA man ws es) := ⟨fun n => beatM_ok _ _ _, fun n o h => beatM_asy h⟩
/-- the highest ones -/
def hi (js : List Nat) (r : Nat → Int) (m : Int) : List Nat := js.filter fun j => decide (r j = m)
structure IsMax (js : List Nat) (r : Nat → Int) (m : Int) : Prop where
  at_ : ∃ j ∈ js, r j = m
  le : ∀ j ∈ js, r j ≤ m
theorem hi_one {js : List Nat} {r : Nat → Int} {m : Int} {n : Nat} (M : IsMax js r m) (h : hi js r m = [n]) : n ∈ js ∧ r n = m ∧ ∀ o ∈ js, o ≠ n → r o < r n := by
  have h1 : n ∈ hi js r m := by rw [h]; simp
  obtain ⟨a, b⟩ := List.mem_filter.mp h1
  have b := of_decide_eq_true b
  refine ⟨a, b, fun o ho hne => ?_⟩
  have l := M.le o ho
  by_cases e : r o = m
  · have : o ∈ hi js r m := List.mem_filter.mpr ⟨ho, decide_eq_true e⟩
    rw [h] at this
    exact absurd (List.mem_singleton.mp this) hne
  · omega
theorem hi_many {js : List Nat} {r : Nat → Int} {m : Int} (hn : js.Nodup) (M : IsMax js r m) (h : 1 < (hi js r m).length) (x : Nat) (hx : x ∈ js) : ∃ o ∈ js, o ≠ x ∧ r x ≤ r o := by
  have nd : (hi js r m).Nodup := List.Sublist.nodup List.filter_sublist hn
  match hl : hi js r m with
  | [] => rw [hl] at h; simp at h
  | [y] => rw [hl] at h; simp at h
  | y :: z :: t =>
    rw [hl] at nd
    have hyz : y ≠ z := fun e => (List.nodup_cons.mp nd).1 (by rw [e]; simp)
    have hy : y ∈ hi js r m := by rw [hl]; simp
    have hz : z ∈ hi js r m := by rw [hl]; simp
    obtain ⟨a1, b1⟩ := List.mem_filter.mp hy
    obtain ⟨a2, b2⟩ := List.mem_filter.mp hz
    have b1 := of_decide_eq_true b1
    have b2 := of_decide_eq_true b2
    have l := M.le x hx
    by_cases e : y = x
    · exact ⟨z, a2, fun q => hyz (by rw [e, q]), by omega⟩
    · exact ⟨y, a1, e, by omega⟩
theorem hi_ne {js : List Nat} {r : Nat → Int} {m : Int} (M : IsMax js r m) : hi js r m ≠ [] := by
  obtain ⟨j, hj, e⟩ := M.at_
  intro q
  have : j ∈ hi js r m := List.mem_filter.mpr ⟨hj, decide_eq_true e⟩
  rw [q] at this
  cases this
def rkA (man : Str) (ws : List Int) (es : List Ent) (j : Nat) : Int := rk man ws (mkA es j)
/-- what beats has the greater rank -/
theorem beat_rk {man : Str} {ws : List Int} {es : List Ent} {n o : Nat} (hw : man ≠ "weights" ∨ man ≠ "within") (h : beatA man ws es n o = true) : rkA man ws es o < rkA man ws es n := by
  unfold beatA beatM at h
  split at h
  · rename_i e
    subst e
    rw [Bool.and_eq_true, decide_eq_true_iff] at h
    unfold rkA rk
    rw [if_neg n_ww, if_neg n_ww]
    omega
  · exact of_decide_eq_true h
theorem many_noWin {man : Str} {ws : List Int} {es : List Ent} {js : List Nat} {m : Int} (hn : js.Nodup) (M : IsMax js (rkA man ws es) m) (h : 1 < (hi js (rkA man ws es) m).length) (n : Nat) : ¬ Win js (beatA man ws es) n := fun w => by
  obtain ⟨o, ho, hne, l⟩ := hi_many hn M h n w.1
  have hw : man ≠ "weights" ∨ man ≠ "within" := by
    by_cases e : man = "weights"
    · exact .inr (by rw [e]; exact n_wi)
    · exact .inl e
  have := beat_rk hw (w.2 o ho hne)
  omega
theorem one_Win {man : Str} {ws : List Int} {es : List Ent} {js : List Nat} {m : Int} {n : Nat} (hm : man ≠ "within") (M : IsMax js (rkA man ws es) m) (h : hi js (rkA man ws es) m = [n]) : Win js (beatA man ws es) n := by
  obtain ⟨a, b, l⟩ := hi_one M h
  refine ⟨a, fun o ho hne => ?_⟩
  unfold beatA beatM
  rw [if_neg hm]
  exact decide_eq_true (l o ho hne)
def holds (es : List Ent) (js : List Nat) (n : Nat) : Bool := js.all fun o => inside (mkA es o) (mkA es n)
theorem rk_within (ws : List Int) (es : List Ent) (j : Nat) : rkA "within" ws es j = ((mkA es j).length : Int) := by
  unfold rkA rk
  rw [if_neg n_ww]
theorem within_Win {ws : List Int} {es : List Ent} {js : List Nat} {m : Int} {n : Nat} (M : IsMax js (rkA "within" ws es) m) (h : hi js (rkA "within" ws es) m = [n]) (hh : holds es js n = true) : Win js (beatA "within" ws es) n := by
  obtain ⟨a, b, l⟩ := hi_one M h
  refine ⟨a, fun o ho hne => ?_⟩
  unfold beatA beatM
  rw [if_pos rfl, Bool.and_eq_true]
  have := l o ho hne
  rw [rk_within, rk_within] at this
  exact ⟨List.all_eq_true.mp hh o ho, decide_eq_true (by omega)⟩
theorem within_noWin {ws : List Int} {es : List Ent} {js : List Nat} {m : Int} {n : Nat} (M : IsMax js (rkA "within" ws es) m) (h : hi js (rkA "within" ws es) m = [n]) (hh : holds es js n = false) (k : Nat) : ¬ Win js (beatA "within" ws es) k := fun w => by
  obtain ⟨a, b, l⟩ := hi_one M h
  have e : n = k := by
    by_cases e : n = k
    · exact e
    · have h1 := beat_rk (.inl n_ww) (w.2 n a e)
      have h2 := l k w.1 (fun q => e q.symm)
      omega
  subst e
  have : holds es js n = true := List.all_eq_true.mpr fun o ho => by
    by_cases e : o = n
    · subst e
      exact List.all_eq_true.mpr fun m hm => decide_eq_true hm
    · have q := w.2 o ho e
      unfold beatA beatM at q
      rw [if_pos rfl, Bool.and_eq_true] at q
      exact q.1
  rw [this] at hh
  cases hh
/-- without a greatest one: the highest are those whom none beats -/
theorem hi_maxB {man : Str} {ws : List Int} {es : List Ent} {js : List Nat} {m : Int} (hm : man ≠ "within") (M : IsMax js (rkA man ws es) m) : js.filter (maxB js (beatA man ws es)) = hi js (rkA man ws es) m := by
  unfold hi
  refine List.filter_congr fun j hj => ?_
  unfold maxB
  have l := M.le j hj
  rw [Bool.eq_iff_iff, decide_eq_true_iff, Bool.not_eq_true', List.any_eq_false]
  constructor
  · intro h
    obtain ⟨o, ho, e⟩ := M.at_
    have := h o ho
    unfold beatA beatM at this
    rw [if_neg hm] at this
    have q : ¬ rkA man ws es j < rkA man ws es o := fun z => this (decide_eq_true z)
    omega
  · intro h o ho
    unfold beatA beatM
    rw [if_neg hm]
    have l2 := M.le o ho
    intro z
    have z := of_decide_eq_true z
    have z : rkA man ws es j < rkA man ws es o := z
    omega
def outdone (es : List Ent) (js : List Nat) (n : Nat) : Bool := (js.filter fun o => decide ((mkA es n).length < (mkA es o).length)).any fun o => inside (mkA es n) (mkA es o)
theorem out_maxB {ws : List Int} {es : List Ent} {js : List Nat} : js.filter (maxB js (beatA "within" ws es)) = js.filter fun n => !outdone es js n := by
  refine List.filter_congr fun j hj => ?_
  unfold maxB outdone
  congr 1
  rw [List.any_filter]
  congr 1
  funext o
  unfold beatA beatM
  rw [if_pos rfl, Bool.and_comm]
/-! ### results as values -/
def ResAt (H : Hp) (v : V) : Res → Prop
  | .none => Tup H v [.str "none"]
  | .ent j => Tup H v [.str "entry", .int (j : Int)]
  | .qua l => ∃ t, Tup H v [.str "quarrel", .ref t] ∧ H t = some (.tup ((nat2 l).map V.int))
theorem ResAt.keep {H H' : Hp} {v : V} {r : Res} (f : TFr H H') (h : ResAt H v r) : ResAt H' v r := by
  cases r with
  | none => exact Tup.keep f h
  | ent j => exact Tup.keep f h
  | qua l =>
    obtain ⟨t, a, b⟩ := h
    exact ⟨t, a.keep f, f _ _ b⟩
def resD : Res → PyData
  | .none => .tuple [.str "none"]
  | .ent j => .tuple [.str "entry", .int (j : Int)]
  | .qua l => .tuple [.str "quarrel", .tuple ((nat2 l).map PyData.int)]
theorem toD_ints (ns : List Int) : (ns.map V.int).map toD = ns.map PyData.int := by
  rw [List.map_map]
  rfl
theorem flat0_ints (ns : List Int) : (ns.map V.int).all flat0 = true := by
  rw [List.all_map]; exact List.all_eq_true.mpr fun _ _ => rfl
theorem dp_res {K : PySem.W.Frag} {H : Hp} {v : V} {r : Res} (h : ResAt H v r) : Dp K H v (resD r) := by
  cases r with
  | none => exact dp_tup h rfl
  | ent j => exact dp_tup h rfl
  | qua l =>
    obtain ⟨t, ⟨p, rfl, hp⟩, ht⟩ := h
    have q := dp_tup (K := K) (v := .ref t) ⟨t, rfl, ht⟩ (flat0_ints (nat2 l))
    rw [toD_ints] at q
    exact .tup (sqT hp) (.cons (.str _) (.cons q .nil))
theorem lay_ints (ns : List Int) : PyData.canLayAll0 (ns.map PyData.int) = true ∧ PyData.depthAll (ns.map PyData.int) = 0 := by
  induction ns with
  | nil => exact ⟨rfl, rfl⟩
  | cons n r ih =>
    rw [List.map_cons]
    simp [PyData.canLayAll0, PyData.depthAll, PyData.canLay0, PyData.depth, ih.1, ih.2]
theorem sh_ints (ns : List Int) : SeqAt.shaped (.list (ns.map PyData.int)) = true := by
  obtain ⟨a, b⟩ := lay_ints ns
  simp [SeqAt.shaped, PyData.canLay0, PyData.depth, a, b]
theorem eqv_ints (ns : List Int) : PyData.eqvAll (ns.map PyData.int) (ns.map PyData.int) = true := by
  induction ns with
  | nil => rfl
  | cons n r ih =>
    rw [List.map_cons]
    simp [PyData.eqvAll, PyData.eqv, ih]
theorem sh_res (r : Res) : SeqAt.shaped (resD r) = true := by
  cases r with
  | none => exact sh1
  | ent j => exact sh2 _
  | qua l =>
    obtain ⟨a, b⟩ := lay_ints (nat2 l)
    have h : PyData.canLay0 (.str "quarrel") = true := by decide +kernel
    simp [resD, SeqAt.shaped, PyData.canLay0, PyData.canLayAll0, PyData.depth, PyData.depthAll, a, b]
    simpa [PyData.canLay0] using h
theorem eqv_res (r : Res) : PyData.eqv (resD r) (resD r) = true := by
  cases r with
  | none => exact eqv1 _
  | ent j =>
    show PyData.eqv (.tuple [.str "entry", .int (j : Int)]) (.tuple [.str "entry", .int (j : Int)]) = true
    rw [eqv2]
    exact decide_eq_true rfl
  | qua l =>
    have := eqv_ints (nat2 l)
    simp [resD, PyData.eqv, PyData.eqvAll, this]
/-! ### books of all manners -/
def WtIs (H : Hp) (man : Str) (wt : V) (ws : List Int) : Prop := (man ≠ "weights" ∧ wt = .non) ∨ (man = "weights" ∧ Xci.Mk H wt ws ∧ ws.length = 6 ∧ ∀ x ∈ ws, 0 ≤ x ∧ x ≤ 1000000)
theorem WtIs.keep {H H' : Hp} {man : Str} {wt : V} {ws : List Int} (f : TFr H H') (h : WtIs H man wt ws) : WtIs H' man wt ws := h.imp id fun ⟨a, b, c⟩ => ⟨a, Tup.keep f b, c⟩
theorem WtIs.ok {H : Hp} {man : Str} {wt : V} {ws : List Int} (h : WtIs H man wt ws) : WtOk H man wt := h.imp id fun ⟨a, b, c⟩ => ⟨a, ws, b, c⟩
structure BookSt (C : Addr) (H : Hp) (b : Addr) (man : Str) (ws : List Int) (es : List Ent) : Prop where
  ex : ∃ (p : Addr) (wt : V) (ys : List V), BookAt C H b man p wt ∧ H p = some (.tup ys) ∧ Ents H ys es ∧ WtIs H man wt ws
  ok : ∀ e ∈ es, EntOk e
  len : es.length ≤ 40
theorem BookSt.same {C : Addr} {H H' : Hp} {b : Addr} {man : Str} {ws : List Int} {es : List Ent} (h : BookSt C H b man ws es) (f : Same H H') : BookSt C H' b man ws es := by
  obtain ⟨⟨p, wt, ys, ⟨dx, a1⟩, a2, a3, a4⟩, b1, b2⟩ := h
  exact ⟨⟨p, wt, ys, ⟨dx, f _ _ a1⟩, f _ _ a2, Ents.keep (TFr.same f) a3, a4.keep (TFr.same f)⟩, b1, b2⟩
/-- the numbers js, all of entries -/
def Nums (H : Hp) (q : Addr) (js : List Nat) : Prop := H q = some (.tup ((nat2 js).map V.int))
theorem num_of {js : List Nat} {i : Nat} {y : V} (h : ((nat2 js).map V.int)[i]? = some y) : ∃ j, js[i]? = some j ∧ y = V.int (j : Int) := by
  obtain ⟨z, hz, rfl⟩ := int_of h
  unfold nat2 at hz
  rw [List.getElem?_map] at hz
  cases e : js[i]? with
  | none => rw [e] at hz; cases hz
  | some j => rw [e] at hz; exact ⟨j, rfl, by rw [← Option.some.inj hz]⟩
theorem nat2_len (js : List Nat) : (nat2 js).length = js.length := by unfold nat2; rw [List.length_map]
def spRank (C : Addr) : Sp := fun vs H Q _ => ∃ (b : Addr) (man : Str) (ws : List Int) (es : List Ent) (j : Nat), vs = [.ref b, .int (j : Int)] ∧ BookSt C H b man ws es ∧ j < es.length ∧ ∀ H', Same H H' → Q (.int (rkA man ws es j)) H'
def spHighest (C : Addr) : Sp := fun vs H Q _ => ∃ (b q : Addr) (man : Str) (ws : List Int) (es : List Ent) (js : List Nat), vs = [.ref b, .ref q] ∧ BookSt C H b man ws es ∧ Nums H q js ∧ (∀ j ∈ js, j < es.length) ∧ js ≠ [] ∧ js.length ≤ 40 ∧
  ∀ (t : Addr) (m : Int) (H' : Hp), IsMax js (rkA man ws es) m → Nums H' t (hi js (rkA man ws es) m) → Same H H' → Q (.ref t) H'
def spHolds (C : Addr) : Sp := fun vs H Q _ => ∃ (b q : Addr) (man : Str) (ws : List Int) (es : List Ent) (js : List Nat) (n : Nat), vs = [.ref b, .int (n : Int), .ref q] ∧ BookSt C H b man ws es ∧ Nums H q js ∧ (∀ j ∈ js, j < es.length) ∧ n < es.length ∧ js.length ≤ 40 ∧ ∀ H', Same H H' → Q (.bl (holds es js n)) H'
def spOutdone (C : Addr) : Sp := fun vs H Q _ => ∃ (b q : Addr) (man : Str) (ws : List Int) (es : List Ent) (js : List Nat) (n : Nat), vs = [.ref b, .int (n : Int), .ref q] ∧ BookSt C H b man ws es ∧ Nums H q js ∧ (∀ j ∈ js, j < es.length) ∧ n < es.length ∧ js.length ≤ 40 ∧ ∀ H', Same H H' → Q (.bl (outdone es js n)) H'
def Man3 (man : Str) : Prop := man = "within" ∨ man = "weights" ∨ man = "most"
def spQuarrel (C : Addr) : Sp := fun vs H Q _ => ∃ (b q : Addr) (man : Str) (ws : List Int) (es : List Ent) (js : List Nat), vs = [.ref b, .ref q] ∧ BookSt C H b man ws es ∧ Nums H q js ∧ (∀ j ∈ js, j < es.length) ∧ js ≠ [] ∧ js.length ≤ 40 ∧
  ∀ (t : Addr) (H' : Hp), Nums H' t (js.filter (maxB js (beatA man ws es))) → Same H H' → Q (.ref t) H'
def resV : Res → V
  | .ent j => .int (j : Int)
  | _ => .non
def spSpeaking (C : Addr) : Sp := fun vs H Q _ => ∃ (b q : Addr) (man : Str) (ws : List Int) (es : List Ent) (js : List Nat), vs = [.ref b, .ref q] ∧ BookSt C H b man ws es ∧ Man3 man ∧ Nums H q js ∧ (∀ j ∈ js, j < es.length) ∧ js.Nodup ∧ js.length ≤ 40 ∧
  ∀ H', Same H H' → Q (resV (lawRes js (beatA man ws es))) H'
def spSpeaker (C : Addr) : Sp := fun vs H Q _ => ∃ (b : Addr) (v : V) (man : Str) (ws : List Int) (es : List Ent) (ms : List Int), vs = [.ref b, v] ∧ BookSt C H b man ws es ∧ Man3 man ∧ Xci.Mk H v ms ∧ MarksOk 6 ms ∧
  ∀ (u : V) (H' : Hp), ResAt H' u (lawRes (fitN es ms) (beatA man ws es)) → Same H H' → Q u H'
def spBeats : Sp := fun vs H Q _ => ∃ (man : Str) (wt u v : V) (ws ms ns : List Int), vs = [.str man, wt, u, v] ∧ Man3 man ∧ WtIs H man wt ws ∧ Xci.Mk H u ms ∧ Xci.Mk H v ns ∧ MarksOk 6 ms ∧ MarksOk 6 ns ∧ ∀ H', Same H H' → Q (.bl (beatM man ws ms ns)) H'
def spSum : Sp := fun vs H Q _ => ∃ (wt u : V) (ws ms : List Int), vs = [wt, u] ∧ Xci.Mk H wt ws ∧ ws.length = 6 ∧ Xci.Mk H u ms ∧ MarksOk 6 ms ∧ ∀ H', Same H H' → Q (.int (ms.map fun m => ws.getD m.toNat 0).sum) H'
def spProper : Sp := fun vs H Q _ => ∃ (u v : V) (ms ns : List Int), vs = [u, v] ∧ Xci.Mk H u ms ∧ Xci.Mk H v ns ∧ ms.length ≤ 1000 ∧ ∀ H', Same H H' → Q (.bl (inside ms ns && decide (ms.length < ns.length))) H'
def spSpeaks (K : PySem.W.Frag) : Sp := fun vs H Q _ => ∃ (man : Str) (p : Addr) (wt v : V) (ys : List V) (ws : List Int) (es : List Ent) (ms : List Int), vs = [.str man, .ref p, wt, v] ∧ Man3 man ∧ WtIs H man wt ws ∧ H p = some (.tup ys) ∧ Ents H ys es ∧ (∀ e ∈ es, EntOk e) ∧ es.length ≤ 1000 ∧ Xci.Mk H v ms ∧
  ∀ (u : V) (H' : Hp), ResAt H' u (lawRes (fitN es ms) (beatA man ws es)) → Same H H' → Q u H'
theorem fit_nd (es : List Ent) (ms : List Int) : (fitN es ms).Nodup := List.Sublist.nodup List.filter_sublist List.nodup_range
theorem fit_lt {es : List Ent} {ms : List Int} : ∀ j ∈ fitN es ms, j < es.length := fun j hj => List.mem_range.mp (List.mem_filter.mp hj).1
theorem fitN_len (es : List Ent) (ms : List Int) : (fitN es ms).length ≤ es.length := Nat.le_trans (List.length_filter_le _ _) (by rw [List.length_range]; exact Nat.le_refl _)
end Xci

namespace Xci
open PySem L2
/-! ### things that compare: what is written in a tuple or a list of ints, texts, None -/
def pd : V → PyData
  | .int i => .int i
  | .str x => .str x
  | .bl b => .bool b
  | _ => .none
def okV : V → Bool
  | .int _ => true
  | .str x => PyData.strOk x
  | .bl _ => true
  | .non => true
  | _ => false
theorem dpV {K : PySem.W.Frag} {H : Hp} {x : V} (h : okV x = true) : Dp K H x (pd x) := by
  cases x with
  | int i => exact .int i
  | str z => exact .str z
  | bl b => exact .bl b
  | non => exact .non
  | byt _ => cases h
  | flt _ => cases h
  | ref _ => cases h
  | ty _ => cases h
theorem layV {x : V} (h : okV x = true) : PyData.canLay0 (pd x) = true ∧ PyData.depth (pd x) = 0 := by
  cases x with
  | int i => exact ⟨by simp [pd, PyData.canLay0], by simp [pd, PyData.depth]⟩
  | str z => exact ⟨by simpa [pd, PyData.canLay0, okV] using h, by simp [pd, PyData.depth]⟩
  | bl b => exact ⟨by simp [pd, PyData.canLay0], by simp [pd, PyData.depth]⟩
  | non => exact ⟨by simp [pd, PyData.canLay0], by simp [pd, PyData.depth]⟩
  | byt _ => cases h
  | flt _ => cases h
  | ref _ => cases h
  | ty _ => cases h
theorem dpVs {K : PySem.W.Frag} {H : Hp} : ∀ {xs : List V}, (∀ x ∈ xs, okV x = true) → DpAll K H xs (xs.map pd)
  | [], _ => .nil
  | x :: r, h => .cons (dpV (h x List.mem_cons_self)) (dpVs fun y hy => h y (List.mem_cons_of_mem _ hy))
theorem layVs : ∀ {xs : List V}, (∀ x ∈ xs, okV x = true) → PyData.canLayAll0 (xs.map pd) = true ∧ PyData.depthAll (xs.map pd) = 0
  | [], _ => ⟨rfl, rfl⟩
  | x :: r, h => by
    obtain ⟨a, b⟩ := layV (h x List.mem_cons_self)
    obtain ⟨c, d⟩ := layVs (xs := r) fun y hy => h y (List.mem_cons_of_mem _ hy)
    rw [List.map_cons]
    simp [PyData.canLayAll0, PyData.depthAll, a, b, c, d]
theorem sh_tup {xs : List V} (h : ∀ x ∈ xs, okV x = true) : SeqAt.shaped (.tuple (xs.map pd)) = true := by
  obtain ⟨a, b⟩ := layVs h
  simp [SeqAt.shaped, PyData.canLay0, PyData.depth, a, b]
theorem sh_lst {xs : List V} (h : ∀ x ∈ xs, okV x = true) : SeqAt.shaped (.list (xs.map pd)) = true := by
  obtain ⟨a, b⟩ := layVs h
  simp [SeqAt.shaped, PyData.canLay0, PyData.depth, a, b]
theorem eqv_same {d : PyData} (h : SeqAt.shaped d = true) : PyData.eqv d d = true := SeqAt.eqv_refl d (SeqAt.canLay_of_shaped h)
/-- u != v of two tuples with the same things: no -/
theorem ne_tup {K : PySem.W.Frag} {H : Hp} {u v : V} {xs : List V} {Q : V → Hp → Prop} (tu : Tup H u xs) (tv : Tup H v xs) (ok : ∀ x ∈ xs, okV x = true) (q : Q (.bl false) H) : rNeD K u v H Q := by
  obtain ⟨a, rfl, ha⟩ := tu
  obtain ⟨b, rfl, hb⟩ := tv
  refine ⟨.tuple (xs.map pd), .tuple (xs.map pd), .tup (sqT ha) (dpVs ok), .tup (sqT hb) (dpVs ok), sh_tup ok, sh_tup ok, ?_⟩
  rw [eqv_same (sh_tup ok)]
  exact q
theorem ne_lst {K : PySem.W.Frag} {H : Hp} {a b : Addr} {xs : List V} {Q : V → Hp → Prop} (ha : H a = some (.lst xs)) (hb : H b = some (.lst xs)) (ok : ∀ x ∈ xs, okV x = true) (q : Q (.bl false) H) : rNeD K (.ref a) (.ref b) H Q := by
  refine ⟨.list (xs.map pd), .list (xs.map pd), .lst (SqL.of ha) (dpVs ok), .lst (SqL.of hb) (dpVs ok), sh_lst ok, sh_lst ok, ?_⟩
  rw [eqv_same (sh_lst ok)]
  exact q
theorem ok_intsV (ns : List Int) : ∀ x ∈ ns.map V.int, okV x = true := fun x hx => by
  obtain ⟨n, _, rfl⟩ := List.mem_map.mp hx
  rfl
theorem WordOk.strOk {z : Str} (h : WordOk z) : PyData.strOk z = true := by
  unfold PyData.strOk
  rw [← Array.all_toList, List.all_eq_true]
  intro c hc
  have := h.az c hc
  exact decide_eq_true (by omega)
theorem ok_strsV {zs : List Str} (h : ∀ z ∈ zs, WordOk z) : ∀ x ∈ zs.map V.str, okV x = true := fun x hx => by
  obtain ⟨z, hz, rfl⟩ := List.mem_map.mp hx
  exact (h z hz).strOk
theorem ok_formsV {fs : List (Option Str)} (h : ∀ z, some z ∈ fs → WordOk z) : ∀ x ∈ fs.map formV, okV x = true := fun x hx => by
  obtain ⟨f, hf, rfl⟩ := List.mem_map.mp hx
  cases f with
  | none => rfl
  | some z => exact (h z hf).strOk
theorem cutTo (xs : List V) (k : Nat) : cutV xs none (some (k : Int)) = xs.take k := by
  unfold cutV
  have e0 : HT.sIx xs.length 0 none = 0 := rfl
  rw [e0, HT.sIx_nat, List.drop_zero, Nat.sub_zero, ← List.take_take, List.take_length]
theorem forms_inV (z : Str) (fs : List (Option Str)) : inV (.str z) (fs.map formV) = decide (some z ∈ fs) := by
  unfold inV
  rw [List.any_map]
  induction fs with
  | nil => rfl
  | cons a r ih =>
    rw [List.any_cons, ih]
    cases a with
    | none =>
      show (false || decide (some z ∈ r)) = decide (some z ∈ none :: r)
      simp
    | some y =>
      show ((y == z) || decide (some z ∈ r)) = decide (some z ∈ some y :: r)
      by_cases e : y = z
      · subst e; simp
      · have e' : ¬ z = y := fun q => e q.symm
        simp [e, e']
/-- the numbers of the open cells -/
def openN (fs : List (Option Str)) (i : Nat) : List Nat := (List.range i).filter fun j => decide (fs[j]? = some none)
theorem open_next {fs : List (Option Str)} {i : Nat} {f : Option Str} (e : fs[i]? = some f) : openN fs (i + 1) = openN fs i ++ (if f = none then [i] else []) := by
  unfold openN
  rw [List.range_succ, List.filter_append, List.filter_cons, List.filter_nil, e]
  by_cases q : f = none
  · rw [if_pos q, if_pos (decide_eq_true (congrArg some q))]
  · rw [if_neg q, if_neg (fun h => q (Option.some.inj (of_decide_eq_true h)))]
theorem open_len (fs : List (Option Str)) (i : Nat) : (openN fs i).length ≤ i := by
  have h := List.length_filter_le (fun j => decide (fs[j]? = some none)) (List.range i)
  rw [List.length_range] at h
  exact h
/-- the cells that are open or have one of these forms, each once -/
structure SeenOk (fs : List (Option Str)) (done : List Str) (js : List Nat) : Prop where
  nd : js.Nodup
  all : ∀ j, j ∈ js ↔ fs[j]? = some none ∨ ∃ z ∈ done, fs[j]? = some (some z)
theorem SeenOk.start (fs : List (Option Str)) : SeenOk fs [] (openN fs fs.length) := by
  refine ⟨List.Sublist.nodup List.filter_sublist List.nodup_range, fun j => ?_⟩
  unfold openN
  rw [List.mem_filter, List.mem_range, decide_eq_true_eq]
  constructor
  · exact fun h => .inl h.2
  · rintro (h | ⟨z, hz, _⟩)
    · exact ⟨(List.getElem?_eq_some_iff.mp h).1, h⟩
    · cases hz
theorem spots_nd (fs : List (Option Str)) (z : Str) : (spots fs z).Nodup := List.Sublist.nodup List.filter_sublist List.nodup_range
theorem SeenOk.next {fs : List (Option Str)} {done : List Str} {js : List Nat} {z : Str} (h : SeenOk fs done js) (new : z ∉ done) : SeenOk fs (done ++ [z]) (js ++ spots fs z) := by
  refine ⟨List.nodup_append.mpr ⟨h.nd, spots_nd fs z, fun a ha b hb e => ?_⟩, fun j => ?_⟩
  · subst e
    have q := spots_at.mp hb
    rcases (h.all a).mp ha with r | ⟨y, hy, r⟩
    · rw [q] at r; cases r
    · rw [q] at r
      have : z = y := Option.some.inj (Option.some.inj r)
      subst this
      exact new hy
  · rw [List.mem_append, h.all j, spots_at]
    constructor
    · rintro ((r | ⟨y, hy, r⟩) | r)
      · exact .inl r
      · exact .inr ⟨y, List.mem_append_left _ hy, r⟩
      · exact .inr ⟨z, List.mem_append_right _ (List.mem_singleton.mpr rfl), r⟩
    · rintro (r | ⟨y, hy, r⟩)
      · exact .inl (.inl r)
      · rcases List.mem_append.mp hy with hy | hy
        · exact .inl (.inr ⟨y, hy, r⟩)
        · rw [List.mem_singleton.mp hy] at r
          exact .inr r
theorem SeenOk.whole {fs : List (Option Str)} {zs : List Str} {js : List Nat} (h : SeenOk fs zs js) (r : ∀ z, z ∈ zs ↔ some z ∈ fs) : js.Perm (List.range fs.length) := by
  refine (List.perm_ext_iff_of_nodup h.nd List.nodup_range).mpr fun j => ?_
  rw [h.all j, List.mem_range]
  constructor
  · rintro (q | ⟨z, _, q⟩)
    · exact (List.getElem?_eq_some_iff.mp q).1
    · exact (List.getElem?_eq_some_iff.mp q).1
  · intro lt
    have q : fs[j]? = some fs[j] := List.getElem?_eq_getElem lt
    cases e : fs[j] with
    | none => rw [e] at q; exact .inl q
    | some z =>
      rw [e] at q
      exact .inr ⟨z, (r z).mpr (List.mem_of_getElem? q), q⟩
/-- sorted numbers that are a perm of 0 .. n are these -/
theorem sorted_rng {ns : List Int} {js : List Nat} {n : Nat} (p : ns.Perm (nat2 js)) (q : js.Perm (List.range n)) (up : ns.Pairwise (· ≤ ·)) : ns = rng (n : Int) := by
  have e : rng (n : Int) = nat2 (List.range n) := by unfold rng nat2; rw [Int.toNat_natCast]
  have pp : ns.Perm (rng (n : Int)) := by
    rw [e]
    exact p.trans (q.map _)
  refine List.Perm.eq_of_pairwise (le := (· ≤ ·)) (fun a b _ _ h k => by omega) up ((rng_ok (n : Int)).up.imp fun h => by omega) pp
/-- told forms that came for the first time, as they come -/
theorem first_next {fs : List (Option Str)} {i : Nat} {seen : List Str} {z : Str} (h : ∀ y, y ∈ seen ↔ some y ∈ fs.take i) (e : fs[i]? = some (some z)) : ∀ y, y ∈ (if some z ∈ fs.take i then seen else seen ++ [z]) ↔ some y ∈ fs.take (i + 1) := fun y => by
  rw [List.take_add_one, e, List.mem_append]
  split
  · rename_i old
    rw [h y]
    constructor
    · exact .inl
    · rintro (q | q)
      · exact q
      · have : y = z := Option.some.inj (List.mem_singleton.mp q)
        rw [this]; exact old
  · rw [List.mem_append, h y, List.mem_singleton]
    constructor
    · rintro (q | q)
      · exact .inl q
      · rw [q]; exact .inr (List.mem_singleton.mpr rfl)
    · rintro (q | q)
      · exact .inl q
      · exact .inr (Option.some.inj (List.mem_singleton.mp q))
end Xci

set_option maxHeartbeats 4000000
/-! ### sorted(a list of tuples of ints, of whatever lengths) -/
namespace TI
open PySem PyProof.Rows Srt SrtO
section
variable {prog : Program} {w : World} {A : Around} {E : Value → Shared → Prop} {s : Shared}
theorem lex_walk {b fin : Bool} {Q : Bool → Shared → Prop} : ∀ {xs ys : List Value} {ns ms : List Int} (i : Nat), IntsAre xs ns → IntsAre ys ms → fin = decide (ns.length < ms.length) → Q (HT.lexLt ns ms) s → PySem.W.KatLex prog w A b fin Q (xs.zip ys) i s
  | _, _, _, _, _, .nil, .nil, ef, q => by
    have e : fin = false := ef.trans (decide_eq_false (Nat.lt_irrefl _))
    rw [HT.lexLt_nil_nil, ← e] at q
    exact PySem.W.kat_nil q
  | _, _, _, _, _, .nil, .cons c u _, ef, q => by
    have e : fin = true := ef.trans (decide_eq_true (Nat.zero_lt_succ _))
    rw [HT.lexLt_nil_cons, ← e] at q
    exact PySem.W.kat_nil q
  | _, _, _, _, _, .cons c u _, .nil, ef, q => by
    have e : fin = false := ef.trans (decide_eq_false (Nat.not_lt_zero _))
    rw [HT.lexLt_cons_nil, ← e] at q
    exact PySem.W.kat_nil q
  | _, _, _, _, i, .cons c u hx, .cons d v hy, ef, q => by
    rw [HT.lexLt_cons] at q
    refine PySem.W.kat_cons (SeqAt.EqAt.int_int c u d v prog w _ _ ?_)
    refine PySem.W.kat_go (fun same => PySem.W.kat_yes ?_) (fun other => PySem.W.kat_no (TS.oneLt_ints _ ?_))
    · have e : c = d := by simpa using same
      rw [if_pos e] at q
      exact lex_walk (i + 1) hx hy (ef.trans (by rw [List.length_cons, List.length_cons]; exact decide_eq_decide.mpr Nat.succ_lt_succ_iff)) q
    · have e : ¬ c = d := by simpa using other
      rw [if_neg e] at q
      exact q
theorem size_ints {xs : Array Value} {ns : List Int} (i : IntsAre xs.toList ns) : xs.size = ns.length := by
  rw [← i.length, Array.length_toList]
/-- two tuples of ints, by what the sort knows of the keys -/
theorem lt_tuples {x : Bool} {v u : Value} {ns ms : List Int} {Q : Bool → Shared → Prop} (hv : TS.TupInts s.heap v ns) (hu : TS.TupInts s.heap u ms) (q : Q (HT.lexLt ns ms) s) : wpAny (model prog w) A (keyLt' (tuples' x) v u) Q E s := by
  obtain ⟨a, xs, rfl, ⟨o, go, _, n, dat⟩, i⟩ := hv
  obtain ⟨b, ys, rfl, ⟨o', go', _, n', dat'⟩, i'⟩ := hu
  refine PySem.W.kat_lt go dat go' dat' (lex_walk 0 i i' ?_ q)
  rw [size_ints i, size_ints i']
theorem lt_oneType {v u : Value} {ns ms : List Int} {Q : Bool → Shared → Prop} (room : A.units < cLine) (hv : TS.TupInts s.heap v ns) (hu : TS.TupInts s.heap u ms) (q : Q (HT.lexLt ns ms) s) : wpAny (model prog w) A (keyLt' oneType' v u) Q E s := by
  obtain ⟨a, xs, rfl, ⟨⟨cls, dd, data, sl⟩, go, ec, n, ed⟩, i⟩ := hv
  obtain ⟨b, ys, rfl, ⟨⟨cls', dd', data', sl'⟩, go', ec', n', ed'⟩, i'⟩ := hu
  simp only at ec ed ec' ed'
  subst ec ed ec' ed'
  rw [keyLt'_oneType, oneLt'_eq]
  simp only [if_true]
  refine wpAny_bind (wpAny_cRoomFor room ?_)
  refine wpAny_bind (wpAny_callSpecialIfBound?_slot (T := "tuple") ⟨_, go, rfl⟩ PySem.F.slot_tuple_lt ?_)
  refine call_meets PySem.F.slot_tuple_lt ⟨_, go, rfl⟩ PySem.F.entry_tuple_lt (PySem.F.args_tuple_lt_2 _ _) (HT.tuple_lt_ints a b xs ys n n' dd dd' sl sl' ns ms i i') ⟨go, go', ?_⟩
  exact wpAny_truthy_bool q
theorem lt_general {v u : Value} {ns ms : List Int} {Q : Bool → Shared → Prop} (room : A.units < cLine) (hv : TS.TupInts s.heap v ns) (hu : TS.TupInts s.heap u ms) (q : Q (HT.lexLt ns ms) s) : wpAny (model prog w) A (keyLt' general' v u) Q E s := by
  obtain ⟨a, xs, rfl, t, i⟩ := hv
  obtain ⟨b, ys, rfl, t', i'⟩ := hu
  exact PySem.W.kat_one _ _ (HT.lt_tupInts (Q := PySem.W.BoolBack Q) t t' i i' room q)
/-- what is looked at first: the tuples' own firsts -/
theorem firsts_any : ∀ {vs : List Value}, (∀ v ∈ vs, ∃ ns, TS.TupInts s.heap v ns) → ∃ rs : List (Option Value), rs.length = vs.length ∧ (∀ (i : Nat) (v : Value) (ns : List Int), vs[i]? = some v → TS.TupInts s.heap v ns → ns = [] → rs[i]? = some none) ∧
    ∀ (Q : List (Option Value) → Shared → Prop) (E : Value → Shared → Prop), Q rs s → wpAny (model prog w) A (vs.mapM firstOfTuple') Q E s
  | [], _ => ⟨[], rfl, fun i v ns h => (by simp at h), fun Q E q => by rw [List.mapM_nil]; exact wpAny_pure q⟩
  | v :: vs, h => by
    obtain ⟨rs, l, e, g⟩ := firsts_any (vs := vs) fun u m => h u (List.mem_cons_of_mem _ m)
    obtain ⟨ns, T⟩ := h v List.mem_cons_self
    obtain ⟨a, xs, rfl, ⟨o, go, ec, n, ed⟩, i⟩ := id T
    refine ⟨xs[0]? :: rs, by rw [List.length_cons, List.length_cons, l], fun k u ms hu hm em => ?_, fun Q E q => ?_⟩
    · cases k with
      | zero =>
        obtain rfl : Value.ref a = u := Option.some.inj hu
        have es : ns = ms := T.ints.symm.trans hm.ints
        subst es
        subst em
        have z := size_ints i
        show some xs[0]? = some none
        rw [Array.getElem?_eq_none (by rw [z]; exact Nat.le_refl _)]
      | succ k => exact e k u ms hu hm em
    · rw [List.mapM_cons]
      refine wpAny_bind ?_
      rw [PySem.W.kas_first_eq]
      refine wpAny_bind (PySem.W.Looks.here (show PySem.W.Looks (model prog w) s.heap (typeOf (.ref a)) o.cls from (PySem.W.Looks.ld go).andThen .now) ?_)
      rw [ec, if_neg (by first | decide | simp)]
      refine wpAny_bind (listItems_at go ed (wpAny_pure ?_))
      exact wpAny_bind (g (fun bs s' => wpAny (model prog w) A (pure (xs[0]? :: bs)) Q E s') E (wpAny_pure q))
theorem type_tuple {v : Value} {ns : List Int} {M : Model} (T : TS.TupInts s.heap v ns) : PySem.W.Looks M s.heap (typeOf v) (.type "tuple") := by
  obtain ⟨a, xs, rfl, ⟨o, go, ec, n, ed⟩, i⟩ := T
  rw [← ec]
  exact (PySem.W.Looks.ld go).andThen .now
/-- some tuple is empty: the kind is that of one type, or of any -/
theorem kind_some_empty {vs : List Value} (h2 : 2 ≤ vs.length) (h : ∀ v ∈ vs, ∃ ns, TS.TupInts s.heap v ns) {v0 : Value} (m0 : v0 ∈ vs) (t0 : TS.TupInts s.heap v0 []) : ∃ κ, (κ = oneType' ∨ κ = general') ∧
    ∀ (Q : SortKind → Shared → Prop) (E : Value → Shared → Prop), Q κ s → wpAny (model prog w) A (keyKind' vs.toArray) Q E s := by
  obtain ⟨rs, l, e, g⟩ := firsts_any (prog := prog) (w := w) (A := A) h
  obtain ⟨i, hi⟩ := List.getElem?_of_mem m0
  have none_ : ¬ (rs.toArray.all fun x => x.isSome) = true := fun all => by
    rw [List.all_toArray, List.all_eq_true] at all
    have z := all none (List.mem_of_getElem? (e i v0 [] hi t0 rfl))
    cases z
  by_cases hd : (rs.toArray[0]?.bind id).isSome = true
  · refine ⟨general', .inr rfl, fun Q E q => ?_⟩
    rw [keyKind'_eq, List.mapM_toArray, map_eq_pure_bind]
    refine wpAny_bind (wpAny_bind (g _ E (wpAny_pure ?_)))
    rw [if_neg none_, if_pos hd]
    exact wpAny_pure q
  · refine ⟨oneType', .inl rfl, fun Q E q => ?_⟩
    rw [keyKind'_eq, List.mapM_toArray, map_eq_pure_bind]
    refine wpAny_bind (wpAny_bind (g _ E (wpAny_pure ?_)))
    rw [if_neg none_, if_neg hd]
    rw [oneTypeOnly'_eq, List.mapM_toArray, map_eq_pure_bind]
    refine wpAny_bind (wpAny_bind (wpAny_bind (PySem.W.kas_mapM (r := Value.type "tuple") _ (fun v hv Q' hq => by
      obtain ⟨ns, T⟩ := h v hv
      exact (type_tuple T).here hq) (wpAny_pure ?_))))
    have all : ((List.map (fun _ => Value.type "tuple") vs).toArray.all fun x => x == Value.type "tuple") = true := by
      rw [List.all_toArray, List.all_map, List.all_eq_true]
      intro _ _
      exact beq_self_eq_true _
    have first : (List.map (fun _ => Value.type "tuple") vs).toArray[0]? = some (Value.type "tuple") := by
      cases vs with
      | nil => exact absurd h2 (by decide)
      | cons v vs => rfl
    rw [first]
    simp only [all, if_true]
    exact wpAny_pure (wpAny_pure q)
theorem firsts_full {h : Heap} : ∀ {vs : List Value}, (∀ v ∈ vs, ∃ n ns, TS.TupInts h v (n :: ns)) → ∃ fs : List Value, PySem.W.KatTups h vs fs ∧ fs.length = vs.length ∧ ∀ f ∈ fs, ∃ x t, f = Value.int x t
  | [], _ => ⟨[], .nil, rfl, nofun⟩
  | v :: vs, hv => by
    obtain ⟨fs, k, l, z⟩ := firsts_full (vs := vs) fun u m => hv u (List.mem_cons_of_mem _ m)
    obtain ⟨n, ns, a, xs, rfl, ⟨o, go, ec, c, ed⟩, i⟩ := hv v List.mem_cons_self
    generalize er : xs.toList = r at i
    cases i with
    | cons _ t i' =>
      rename_i us
      have at0 : xs[0]? = some (Value.int n t) := by rw [← Array.getElem?_toList, er] <;> rfl
      refine ⟨Value.int n t :: fs, .cons go ec ed at0 k, by rw [List.length_cons, List.length_cons, l], fun f hf => ?_⟩
      rcases List.mem_cons.mp hf with e | hf
      · exact ⟨n, t, e⟩
      · exact z f hf
theorem tuples_sortable {a : Addr} {vs : List Value} {k : Value → List Int} (room : A.units < cLine) (h2 : 2 ≤ vs.length) (hv : ∀ v ∈ vs, TS.TupInts s.heap v (k v)) (ha : ∀ o, s.heap.get? a = some o → o.cls ≠ .type "tuple") :
    SortableO prog w A s a vs fun v u => HT.lexLt (k v) (k u) := by
  intro h' keep
  have hv' : ∀ v ∈ vs, TS.TupInts h' v (k v) := fun v m => (hv v m).keeps fun b o e c => keep b o (fun z => by subst z; exact ha o e c) e
  by_cases full : ∀ v ∈ vs, k v ≠ []
  · obtain ⟨fs, t, l, z⟩ := firsts_full (h := h') (vs := vs) fun v m => by
      cases e : k v with
      | nil => exact absurd e (full v m)
      | cons n ns => exact ⟨n, ns, e ▸ hv' v m⟩
    refine ⟨tuples' true, fun Q E q => ?_, fun p r hp hr => lt_tuples (hv' _ hp) (hv' _ hr) ⟨rfl, rfl⟩⟩
    refine PySem.W.kat_kind (T := .type "int") t (by omega) (fun f hm => ?_) (by rfl) ?_
    · obtain ⟨x, u, rfl⟩ := z f hm
      exact PySem.W.Looks.now
    · rw [show (Value.type "int" != Value.type "tuple") = true from by first | decide +kernel | rfl | decide]
      exact q
  · obtain ⟨v0, m0, e0⟩ : ∃ v ∈ vs, k v = [] := by
      refine Classical.byContradiction fun no => full fun v m e => no ⟨v, m, e⟩
    obtain ⟨κ, hκ, kind⟩ := kind_some_empty (prog := prog) (w := w) (A := A) (s := { s with heap := h' }) h2 (fun v m => ⟨_, hv' v m⟩) m0 (e0 ▸ hv' v0 m0)
    refine ⟨κ, kind, fun p r hp hr => ?_⟩
    rcases hκ with rfl | rfl
    · exact lt_oneType room (hv' _ hp) (hv' _ hr) ⟨rfl, rfl⟩
    · exact lt_general room (hv' _ hp) (hv' _ hr) ⟨rfl, rfl⟩
end
end TI
namespace Xci
open PySem PySem.Spec PyProof.Rows L2
/-- sorted(xs), xs a list of tuples of ints (k says which), of whatever lengths -/
def rSortedTI (K : PySem.W.Frag) : List V → Hp → VK → Prop := fun vs H Q => ∃ (a : Addr) (xs : List V) (k : V → List Int), vs = [V.ref a] ∧ SqL K H a xs ∧ (∀ x ∈ xs, ∃ t, x = V.ref t ∧ H t = some (.tup ((k x).map V.int))) ∧
  ∀ ys p, ys.Pairwise (fun x y => HT.lexLt (k y) (k x) = false) → ys.Perm xs → H p = none → Q (.ref p) (upd H p (.lst ys))
theorem cr_sortedTI {X : Cx} (room : X.A.units + 64 < cLine) : CallR X (.builtin "sorted") (rSortedTI X.K) := by
  intro pins s σ H vs us Q I r h
  obtain ⟨a, xs, k, rfl, hs, hx, q⟩ := h
  obtain ⟨its, rv, hl, hz⟩ := I.list hs
  rw [Vals.ref1 r]
  obtain ⟨e1, e2⟩ := refs_back rv fun x m => by
    obtain ⟨t, e, _⟩ := hx x m
    exact ⟨t, e⟩
  have told : ∀ v ∈ its, TS.TupInts s.heap v (k (backV v)) := fun v hv => by
    obtain ⟨t, rfl⟩ := e2 v hv
    obtain ⟨t', e, ht⟩ := hx (V.ref t) (by rw [e1]; exact List.mem_map.mpr ⟨_, hv, rfl⟩)
    cases e
    obtain ⟨_, is, ri, at_⟩ := I.hok _ _ ht
    exact ⟨t, is.toArray, rfl, at_, Vals.ints ri⟩
  refine SrtO.sorted_ord (NtL.swo_lexL fun v => k (backV v)) hl.isList (by rw [← rv.length]; exact hz) (fun h2 h₁ a' at_ kk => ?_) fun out h1 h2 => ?_
  · refine TI.tuples_sortable (s := { s with heap := h₁ }) (by have e : X.A.in1.in1.units = X.A.units + 1 + 1 := rfl; omega) h2 (fun v hv => (told v hv).keeps fun b o e _ => (kk b o e).2) fun o e => ?_
    have e' : some o = some (seqObj "list" its.toArray 0) := e.symm.trans at_
    cases e'
    exact fun c => absurd (Value.type.inj c) (by decide)
  · have refs : ∀ u ∈ out, ∃ a, u = Value.ref a := fun u hu => e2 u (h2.perm.mem_iff.mp hu)
    obtain ⟨n, hn⟩ := sortedAll_at s.heap its out.toArray
    have perm : (out.map backV).Perm xs := by rw [e1]; exact h2.perm.map backV
    refine ⟨.ref _, upd H (s.heap.objs.size + 1) (.lst (out.map backV)), I.laid (t' := s.toks) (fun _ _ => sortedAll_old) (Nat.le_succ _) ⟨by rw [perm.length_eq]; exact hz, out, n, vals_back refs, hn⟩, rfl, q _ _ (List.pairwise_map.mpr h1) perm (I.hok.fresh (Nat.le_succ _))⟩
end Xci

namespace Xci
open PySem L2
/-! ### a book in another order; weights twice, even weights; sorted lists -/
theorem made_book {C x dx : Addr} {H : Hp} {man : Str} {p : Addr} {wt : V} {ys : List V} {es : List Ent} {ws : List Int} {Q : VK} {E : XK} (nx : H x = Option.none) (ndx : H dx = Option.none) (hm : Man man) (hw : WtIs H man wt ws) (hp : H p = some (.tup ys)) (ents : Ents H ys es)
    (ok : ∀ e ∈ es, EntOk e) (len : es.length ≤ 40) (G : ∀ H', BookSt C H' x man ws es → Same H H' → Q .non H') : spBook C [.ref x, .str man, .ref p, wt] (upd (upd H dx (.own x)) x (.ins C dx [])) Q E := by
  have s3 : Same H (upd (upd H dx (.own x)) x (.ins C dx [])) := fun b o e => by rw [upd_ne (ne_of_none e nx), upd_ne (ne_of_none e ndx)]; exact e
  refine ⟨x, dx, man, p, wt, ys, es, rfl, upd_same, hm, (hw.keep (TFr.same s3)).ok, s3 _ _ hp, Ents.keep (TFr.same s3) ents, ok, len, fun H' hb kp => ?_⟩
  have s4 : Same H H' := fun b o e => kp b o (s3 b o e) (ne_of_none e nx)
  exact G H' ⟨⟨p, wt, ys, hb, s4 _ _ hp, Ents.keep (TFr.same s4) ents, hw.keep (TFr.same s4)⟩, ok, len⟩ s4
/-- esT holds the entries of es in the order ord -/
structure Picked (es : List Ent) (ord : List Nat) (esT : List Ent) : Prop where
  len : esT.length = ord.length
  at_ : ∀ (i j : Nat), ord[i]? = some j → esT[i]? = es[j]?
def gOf (ord : List Nat) (i : Nat) : Nat := ord.getD i 0
theorem gOf_at {ord : List Nat} {i j : Nat} (h : ord[i]? = some j) : gOf ord i = j := by
  unfold gOf
  rw [List.getD_eq_getElem?_getD, h]
  rfl
theorem Picked.snoc {es : List Ent} {ord : List Nat} {esT : List Ent} {i j : Nat} {e : Ent} (P : Picked es (ord.take i) esT) (hi : i ≤ ord.length) (h : ord[i]? = some j) (he : es[j]? = some e) : Picked es (ord.take (i + 1)) (esT ++ [e]) := by
  have hlt := (List.getElem?_eq_some_iff.mp h).1
  have el : esT.length = i := by rw [P.len, List.length_take]; omega
  have et : ord.take (i + 1) = ord.take i ++ [j] := by rw [List.take_add_one, h]; rfl
  refine ⟨by rw [List.length_append, el, List.length_take, List.length_singleton]; omega, fun k m hk => ?_⟩
  rw [et] at hk
  have tl : (ord.take i).length = i := by rw [List.length_take]; omega
  by_cases hki : k < i
  · rw [List.getElem?_append_left (by omega)] at hk
    rw [List.getElem?_append_left (by omega)]
    exact P.at_ k m hk
  · have hkl := (List.getElem?_eq_some_iff.mp hk).1
    rw [List.length_append, tl, List.length_singleton] at hkl
    have : k = i := by omega
    subst this
    rw [List.getElem?_append_right (by omega), tl, Nat.sub_self] at hk
    obtain rfl : j = m := Option.some.inj hk
    rw [List.getElem?_append_right (by omega), el, Nat.sub_self, he]
    rfl
theorem Picked.mk_ {es : List Ent} {ord : List Nat} {esT : List Ent} (P : Picked es ord esT) {i : Nat} (hi : i < ord.length) : mkA esT i = mkA es (gOf ord i) := by
  have h : ord[i]? = some ord[i] := List.getElem?_eq_getElem hi
  unfold mkA
  rw [gOf_at h, P.at_ i _ h]
theorem Picked.fit {es : List Ent} {ord : List Nat} {esT : List Ent} (P : Picked es ord esT) {i : Nat} (ms : List Int) (hi : i < ord.length) : fitP esT ms i = fitP es ms (gOf ord i) := by
  have h : ord[i]? = some ord[i] := List.getElem?_eq_getElem hi
  unfold fitP
  rw [gOf_at h, P.at_ i _ h]
theorem gOf_map (ord : List Nat) : (List.range ord.length).map (gOf ord) = ord := by
  refine List.ext_getElem? fun i => ?_
  rw [List.getElem?_map]
  by_cases hi : i < ord.length
  · rw [List.getElem?_eq_getElem (by rw [List.length_range]; exact hi), List.getElem_range, List.getElem?_eq_getElem hi]
    show some (gOf ord i) = _
    rw [gOf_at (List.getElem?_eq_getElem hi)]
  · rw [List.getElem?_eq_none (by rw [List.length_range]; omega), List.getElem?_eq_none (by omega)]
    rfl
theorem Picked.perm {es : List Ent} {ord : List Nat} {esT : List Ent} (P : Picked es ord esT) (hp : ord.Perm (List.range es.length)) (ms : List Int) : ((fitN esT ms).map (gOf ord)).Perm (fitN es ms) := by
  have e1 : fitN esT ms = (List.range ord.length).filter (fun i => fitP es ms (gOf ord i)) := by
    unfold fitN
    rw [P.len]
    exact List.filter_congr fun i hi => P.fit ms (List.mem_range.mp hi)
  have e2 : ((List.range ord.length).filter (fun i => fitP es ms (gOf ord i))).map (gOf ord) = ((List.range ord.length).map (gOf ord)).filter (fitP es ms) := by
    rw [List.filter_map]
    rfl
  rw [e1, e2, gOf_map]
  exact hp.filter _
theorem Picked.turned {es : List Ent} {ord : List Nat} {esT : List Ent} (P : Picked es ord esT) (hp : ord.Perm (List.range es.length)) (man : Str) (ws ms : List Int) :
    Turned (gOf ord) (lawRes (fitN esT ms) (beatA man ws esT)) (lawRes (fitN es ms) (beatA man ws es)) := by
  refine lawRes_turned (beatA_ok _ _ _) (beatA_ok _ _ _) (fit_nd es ms) (P.perm hp ms) fun i hi o ho => ?_
  have h1 : i < ord.length := by rw [← P.len]; exact fit_lt i hi
  have h2 : o < ord.length := by rw [← P.len]; exact fit_lt o ho
  unfold beatA
  rw [P.mk_ h1, P.mk_ h2]
theorem Picked.ok {es : List Ent} {ord : List Nat} {esT : List Ent} (P : Picked es ord esT) (h : ∀ e ∈ es, EntOk e) : ∀ e ∈ esT, EntOk e := by
  intro e he
  obtain ⟨i, hi⟩ := List.getElem?_of_mem he
  have hl := (List.getElem?_eq_some_iff.mp hi).1
  rw [P.len] at hl
  have := P.at_ i _ (List.getElem?_eq_getElem hl)
  rw [hi] at this
  exact h e (List.mem_of_getElem? this.symm)
theorem lawRes_asc {js : List Nat} {beat : Nat → Nat → Bool} (h : js.Pairwise (· < ·)) {l : List Nat} (e : lawRes js beat = .qua l) : l.Pairwise (· < ·) ∧ l.length ≤ js.length := by
  unfold lawRes at e
  split at e
  · cases e
  · split at e
    · cases e
    · obtain rfl := Res.qua.inj e
      exact ⟨h.sublist List.filter_sublist, List.length_filter_le _ _⟩
theorem fit_asc (es : List Ent) (ms : List Int) : (fitN es ms).Pairwise (· < ·) := List.pairwise_lt_range.sublist List.filter_sublist
/-- two ascending lists of the same items are one -/
theorem sorted_one : ∀ {xs ys : List Int}, xs.Perm ys → xs.Pairwise (· ≤ ·) → ys.Pairwise (· ≤ ·) → xs = ys
  | [], ys, p, _, _ => (List.nil_perm.mp p).symm
  | x :: r, [], p, _, _ => by have := p.length_eq; simp at this
  | x :: r, y :: t, p, hx, hy => by
    obtain ⟨a1, a2⟩ := List.pairwise_cons.mp hx
    obtain ⟨b1, b2⟩ := List.pairwise_cons.mp hy
    have e : x = y := by
      have m1 : x ∈ y :: t := p.subset (by simp)
      have m2 : y ∈ x :: r := p.symm.subset (by simp)
      rcases List.mem_cons.mp m1 with q1 | q1
      · exact q1
      · rcases List.mem_cons.mp m2 with q2 | q2
        · exact q2.symm
        · have := b1 x q1
          have := a1 y q2
          omega
    subst e
    rw [sorted_one (List.perm_cons x |>.mp p) a2 b2]
theorem nat2_asc {l : List Nat} (h : l.Pairwise (· < ·)) : (nat2 l).Pairwise (· ≤ ·) := by
  unfold nat2
  rw [List.pairwise_map]
  exact h.imp fun q => by omega
theorem nat2_perm {l k : List Nat} (h : l.Perm k) : (nat2 l).Perm (nat2 k) := h.map _
theorem dp_list {K : PySem.W.Frag} {H : Hp} {p : Addr} {ns : List Int} (h : H p = some (.lst (ns.map V.int))) : Dp K H (.ref p) (.list (ns.map PyData.int)) := by
  have q := dp_all (K := K) (H := H) (flat0_ints ns)
  rw [toD_ints] at q
  exact .lst (SqL.of h) q
/-! weights -/
theorem getD_twice {ws : List Int} {i : Nat} : (ws.map (2 * ·)).getD i 0 = 2 * ws.getD i 0 := by
  rw [List.getD_eq_getElem?_getD, List.getD_eq_getElem?_getD, List.getElem?_map]
  cases ws[i]? <;> simp
theorem sum_twice (ws ms : List Int) : (ms.map fun m => (ws.map (2 * ·)).getD m.toNat 0).sum = 2 * (ms.map fun m => ws.getD m.toNat 0).sum := by
  induction ms with
  | nil => rfl
  | cons m r ih =>
    rw [List.map_cons, List.map_cons, List.sum_cons, List.sum_cons, ih, getD_twice]
    omega
theorem beat_twice (ws ms ns : List Int) : beatM "weights" (ws.map (2 * ·)) ms ns = beatM "weights" ws ms ns := by
  unfold beatM rk
  rw [if_neg n_wi, if_pos rfl, if_pos rfl, if_neg n_wi, if_pos rfl, if_pos rfl, sum_twice, sum_twice, Bool.eq_iff_iff, decide_eq_true_iff, decide_eq_true_iff]
  omega
theorem getD_even {c : Int} {i : Nat} (h : i < 6) : (List.replicate 6 c).getD i 0 = c := by
  rw [List.getD_eq_getElem?_getD, List.getElem?_replicate, if_pos h]
  rfl
theorem sum_even {c : Int} {ms : List Int} (h : MarksOk 6 ms) : (ms.map fun m => (List.replicate 6 c).getD m.toNat 0).sum = c * ms.length := by
  have : ∀ ms : List Int, (∀ m ∈ ms, 0 ≤ m ∧ m < 6) → (ms.map fun m => (List.replicate 6 c).getD m.toNat 0).sum = c * ms.length := by
    intro ms
    induction ms with
    | nil => intro _; simp
    | cons m r ih =>
      intro hb
      have b := hb m (by simp)
      rw [List.map_cons, List.sum_cons, ih fun k hk => hb k (List.mem_cons_of_mem _ hk), getD_even (by omega), List.length_cons]
      have : c * ((r.length + 1 : Nat) : Int) = c * (r.length : Int) + c := by
        rw [Int.natCast_add, Int.mul_add]
        simp
      rw [this]
      omega
  exact this ms fun m hm => ⟨h.lo m hm, h.hi m hm⟩
theorem beat_even {c : Int} {ms ns ws : List Int} (hc : 1 ≤ c) (hm : MarksOk 6 ms) (hn : MarksOk 6 ns) : beatM "weights" (List.replicate 6 c) ms ns = beatM "most" ws ms ns := by
  unfold beatM rk
  rw [if_neg n_wi, if_pos rfl, if_pos rfl, if_neg n_mosti, if_neg n_mostw, if_neg n_mostw, sum_even hm, sum_even hn, Bool.eq_iff_iff, decide_eq_true_iff, decide_eq_true_iff]
  constructor
  · intro h
    exact Int.lt_of_mul_lt_mul_left h (by omega)
  · intro h
    exact Int.mul_lt_mul_of_pos_left h (by omega)
theorem mkA_ok {es : List Ent} (h : ∀ e ∈ es, EntOk e) (j : Nat) : MarksOk 6 (mkA es j) := by
  unfold mkA
  cases e : es[j]? with
  | none => exact ⟨.nil, by simp, by simp⟩
  | some x => exact (h x (List.mem_of_getElem? e)).ms
/-! max of a tuple of ints -/
end Xci
namespace Xci
open PySem PySem.Spec PyProof.Rows L2
theorem max_tup {prog : Program} {w : World} {A : Around} {E : Value → Shared → Prop} {s : Shared} {l : Addr} {its : List Value} {ns : List Int} {Q : Value → Shared → Prop} (hh : A.handled = none) (ht : s.heap.IsTuple l its.toArray) (hi : IntsAre its ns) (hne : 0 < ns.length)
    (h : ∀ h' tk M t', (∀ b o, s.heap.get? b = some o → h'.get? b = some o) → M ∈ ns → (∀ a, a ∈ ns → a ≤ M) → Q (.int M t') { s with heap := h', toks := tk }) : wpAny (model prog w) A (call (.builtin "max") [.ref l]) Q E s := by
  obtain ⟨xs, e⟩ := hi.allInts.items
  have hn : numsOf (intItems xs).toList = ns := e ▸ hi.numsOf
  rw [nums_intItems] at hn
  subst hn
  rw [e] at ht
  have pos : 0 < xs.size := by simpa using hne
  have below : l < s.heap.objs.size := by obtain ⟨_, q, _⟩ := id ht; exact Heap.lt_size q
  refine PySem.call_max_walk (wpAny_pyIter_tuple ht ?_)
  refine ⟨_, _, _, _, _, _, _, rfl, Walks.tuple (A := A.in1) hh s.heap.objs.size l (Nat.ne_of_lt below) (intItems xs), ⟨⟨_, Heap.get?_push_size _ rfl, rfl, rfl⟩, ht.at fun o q => Heap.get?_push_of_some _ q⟩, fun b hb => ?_, by simpa [intItems] using pos,
    CmpOf.ints_gt (numAt xs) (fun _ _ => intItems_at), fun v h' tk hv hk => ?_⟩
  · show b < (s.heap.push _).objs.size
    rw [Heap.size_push]
    have hb' : b = s.heap.objs.size ∨ b = l := by simpa using hb
    rcases hb' with q | q <;> rw [q]
    · exact Nat.lt_succ_self _
    · exact Nat.lt_succ_of_lt below
  have hv' : (intItems xs)[argBest (fun i j => decide (numAt xs i > numAt xs j)) (xs.size - 1)]? = some v := by simpa [intItems] using hv
  obtain ⟨t, rfl⟩ := intItems_at hv'
  obtain ⟨b1, b2⟩ := argBest_gt (numAt xs) (xs.size - 1)
  refine h h' tk _ t (fun b o q => ?_) ?_ fun a ha => ?_
  · refine hk b o (fun hm => ?_) (Heap.get?_push_of_some _ q)
    have hb' : b = s.heap.objs.size := by simpa using hm
    exact absurd (Heap.lt_size q) (by rw [hb']; exact Nat.lt_irrefl _)
  · rw [numAt_eq]
    exact PySem.getD_mem (by rw [List.length_map, Array.length_toList]; omega)
  · obtain ⟨j, hj, rfl⟩ := mem_getD ha
    rw [List.length_map, Array.length_toList] at hj
    rw [← numAt_eq]
    exact b2 j (by omega)
def rMaxT (K : PySem.W.Frag) : List V → Hp → VK → Prop := fun vs H Q => ∃ (a : Addr) (ns : List Int), vs = [V.ref a] ∧ SqT K H a (ns.map V.int) ∧ 0 < ns.length ∧ ∀ m, m ∈ ns → (∀ y, y ∈ ns → y ≤ m) → Q (.int m) H
theorem cr_maxT {X : Cx} (hc : X.calm = true) : CallR X (.builtin "max") (rMaxT X.K) := by
  intro pins s σ H vs us Q I r h
  obtain ⟨a, ns, rfl, hs, hne, q⟩ := h
  obtain ⟨its, rv, hl, _⟩ := I.tuple hs
  rw [Vals.ref1 r]
  exact max_tup (I.ok.hd hc) hl rv.ints hne fun h' tk m t' hk h1 h2 => ⟨.int m, H, I.kept hk, ⟨_, rfl⟩, q m h1 h2⟩
end Xci

namespace Xci
open PySem L2
/-! ### holding: quarrels are of two at least; a book with an entry of just these marks ahead -/
theorem inside_mem {ms ns : List Int} (h : inside ms ns = true) : ∀ m ∈ ms, m ∈ ns := fun m hm => of_decide_eq_true (List.all_eq_true.mp h m hm)
theorem inside_of {ms ns : List Int} (h : ∀ m ∈ ms, m ∈ ns) : inside ms ns = true := List.all_eq_true.mpr fun m hm => decide_eq_true (h m hm)
theorem within_eq (ws : List Int) (ms ns : List Int) : beatM "within" ws ms ns = (inside ns ms && decide (ns.length < ms.length)) := if_pos rfl
theorem within_trans {ws : List Int} {es : List Ent} {a b c : Nat} (h1 : beatA "within" ws es a b = true) (h2 : beatA "within" ws es b c = true) : beatA "within" ws es a c = true := by
  unfold beatA at h1 h2 ⊢
  rw [within_eq, Bool.and_eq_true, decide_eq_true_iff] at h1 h2 ⊢
  exact ⟨inside_of fun m hm => inside_mem h1.1 m (inside_mem h2.1 m hm), by omega⟩
theorem within_len {ws : List Int} {es : List Ent} {a b : Nat} (h : beatA "within" ws es a b = true) : (mkA es b).length < (mkA es a).length := by
  unfold beatA at h
  rw [within_eq, Bool.and_eq_true, decide_eq_true_iff] at h
  exact h.2
theorem some_max {ws : List Int} {es : List Ent} {js : List Nat} (hb : ∀ j ∈ js, (mkA es j).length ≤ 6) : ∀ (n j : Nat), j ∈ js → 6 - (mkA es j).length ≤ n → ∃ m ∈ js.filter (maxB js (beatA "within" ws es)), m = j ∨ beatA "within" ws es m j = true := by
  intro n
  induction n with
  | zero =>
    intro j hj hn
    refine ⟨j, List.mem_filter.mpr ⟨hj, ?_⟩, .inl rfl⟩
    unfold maxB
    rw [Bool.not_eq_true', List.any_eq_false]
    intro o ho q
    have := within_len q
    have := hb o ho
    omega
  | succ n ih =>
    intro j hj hn
    by_cases q : maxB js (beatA "within" ws es) j = true
    · exact ⟨j, List.mem_filter.mpr ⟨hj, q⟩, .inl rfl⟩
    · unfold maxB at q
      rw [Bool.not_eq_true', List.any_eq_false] at q
      have : ∃ o ∈ js, beatA "within" ws es o j = true := by
        by_cases e : ∃ o ∈ js, beatA "within" ws es o j = true
        · exact e
        · exact absurd (fun o ho z => e ⟨o, ho, z⟩) q
      obtain ⟨o, ho, z⟩ := this
      have hl := within_len z
      obtain ⟨m, hm, hmo⟩ := ih o ho (by omega)
      refine ⟨m, hm, .inr ?_⟩
      rcases hmo with e | e
      · rw [e]; exact z
      · exact within_trans e z
theorem qua_two {ws : List Int} {es : List Ent} {js : List Nat} (hn : js.Nodup) (hb : ∀ j ∈ js, (mkA es j).length ≤ 6) {l : List Nat} (e : lawRes js (beatA "within" ws es) = .qua l) : 2 ≤ l.length := by
  rcases lawRes_cases (beatA_ok "within" ws es) hn with ⟨_, r⟩ | ⟨n, _, r⟩ | ⟨hne, hw, r⟩
  · rw [r] at e; cases e
  · rw [r] at e; cases e
  · rw [r] at e
    obtain rfl := Res.qua.inj e
    obtain ⟨j, hj⟩ : ∃ j, j ∈ js := by
      cases js with
      | nil => exact absurd rfl hne
      | cons j r => exact ⟨j, by simp⟩
    have sm := fun o ho => some_max (ws := ws) hb 6 o ho (by omega)
    match hl : js.filter (maxB js (beatA "within" ws es)) with
    | [] =>
      obtain ⟨m, hm, _⟩ := sm j hj
      rw [hl] at hm
      cases hm
    | [m] =>
      refine absurd ⟨?_, fun o ho hne => ?_⟩ (hw m)
      · have : m ∈ js.filter (maxB js (beatA "within" ws es)) := by rw [hl]; simp
        exact (List.mem_filter.mp this).1
      · obtain ⟨k, hk, z⟩ := sm o ho
        rw [hl] at hk
        have : k = m := List.mem_singleton.mp hk
        subst this
        rcases z with z | z
        · exact absurd z.symm hne
        · exact z
    | x :: y :: r => simp
theorem asc_sub_len : ∀ {b a : List Int}, b.Pairwise (· < ·) → a.Pairwise (· < ·) → (∀ x ∈ a, x ∈ b) → a.length ≤ b.length
  | [], [], _, _, _ => Nat.le_refl _
  | [], x :: r, _, _, h => absurd (h x (by simp)) (by simp)
  | y :: t, [], _, _, _ => Nat.zero_le _
  | y :: t, x :: r, hb, ha, h => by
    obtain ⟨b1, b2⟩ := List.pairwise_cons.mp hb
    obtain ⟨a1, a2⟩ := List.pairwise_cons.mp ha
    by_cases e : x = y
    · subst e
      have := asc_sub_len (b := t) (a := r) b2 a2 fun k hk => by
        rcases List.mem_cons.mp (h k (List.mem_cons_of_mem _ hk)) with q | q
        · have := a1 k hk; omega
        · exact q
      simp only [List.length_cons]
      omega
    · have hx : x ∈ t := by
        rcases List.mem_cons.mp (h x (by simp)) with q | q
        · exact absurd q e
        · exact q
      have := b1 x hx
      have := asc_sub_len (b := t) (a := x :: r) b2 ha fun k hk => by
        rcases List.mem_cons.mp (h k hk) with q | q
        · rcases List.mem_cons.mp hk with q2 | q2
          · omega
          · have := a1 k q2; omega
        · exact q
      simp only [List.length_cons] at this ⊢
      omega
theorem asc_sub_eq : ∀ {b a : List Int}, b.Pairwise (· < ·) → a.Pairwise (· < ·) → (∀ x ∈ a, x ∈ b) → a.length = b.length → a = b
  | [], [], _, _, _, _ => rfl
  | [], x :: r, _, _, h, _ => absurd (h x (by simp)) (by simp)
  | y :: t, [], _, _, _, e => by simp at e
  | y :: t, x :: r, hb, ha, h, el => by
    obtain ⟨b1, b2⟩ := List.pairwise_cons.mp hb
    obtain ⟨a1, a2⟩ := List.pairwise_cons.mp ha
    by_cases e : x = y
    · subst e
      rw [asc_sub_eq (b := t) (a := r) b2 a2 (fun k hk => by
        rcases List.mem_cons.mp (h k (List.mem_cons_of_mem _ hk)) with q | q
        · have := a1 k hk; omega
        · exact q) (by simpa using el)]
    · have hx : x ∈ t := by
        rcases List.mem_cons.mp (h x (by simp)) with q | q
        · exact absurd q e
        · exact q
      have := b1 x hx
      have := asc_sub_len (b := t) (a := x :: r) b2 ha fun k hk => by
        rcases List.mem_cons.mp (h k hk) with q | q
        · rcases List.mem_cons.mp hk with q2 | q2
          · omega
          · have := a1 k q2; omega
        · exact q
      simp only [List.length_cons] at this el
      omega
theorem inside_len {ms ns : List Int} (h : inside ms ns = true) (hm : MarksOk 6 ms) (hn : MarksOk 6 ns) : ms.length ≤ ns.length := asc_sub_len hn.up hm.up (inside_mem h)
theorem inside_eq {ms ns : List Int} (h : inside ms ns = true) (hm : MarksOk 6 ms) (hn : MarksOk 6 ns) (e : ms.length = ns.length) : ms = ns := asc_sub_eq hn.up hm.up (inside_mem h) e
theorem inside_refl (ms : List Int) : inside ms ms = true := inside_of fun _ h => h
/-- the entries with just these marks -/
def sameN (es : List Ent) (ms : List Int) : List Nat := (List.range es.length).filter fun n => decide (mkA es n = ms)
theorem mkA_cons (e : Ent) (es : List Ent) (n : Nat) : mkA (e :: es) (n + 1) = mkA es n := rfl
theorem mkA_zero (e : Ent) (es : List Ent) : mkA (e :: es) 0 = e.1 := rfl
theorem fit_mk {es : List Ent} {ms : List Int} {n : Nat} (h : n ∈ fitN es ms) : inside (mkA es n) ms = true := by
  obtain ⟨a, b⟩ := List.mem_filter.mp h
  have hn := List.mem_range.mp a
  unfold fitP at b
  unfold mkA
  rw [List.getElem?_eq_getElem hn] at b ⊢
  exact b
theorem whole_res {es : List Ent} {ms : List Int} {z : Str} (eok : ∀ e ∈ es, EntOk e) (mok : MarksOk 6 ms) :
    lawRes (fitN ((ms, z) :: es) ms) (beatA "within" [] ((ms, z) :: es)) = if sameN es ms = [] then .ent 0 else .qua (0 :: (sameN es ms).map (· + 1)) := by
  have ef : fitN ((ms, z) :: es) ms = 0 :: (fitN es ms).map (· + 1) := by
    rw [fit_cons, if_pos (inside_refl ms)]
    rfl
  have nd := fit_nd ((ms, z) :: es) ms
  have b0 : ∀ n ∈ fitN es ms, beatA "within" [] ((ms, z) :: es) 0 (n + 1) = !decide (mkA es n = ms) := fun n hn => by
    unfold beatA
    rw [within_eq, mkA_cons, mkA_zero, fit_mk hn, Bool.true_and]
    have l := inside_len (fit_mk hn) (mkA_ok eok n) mok
    by_cases e : mkA es n = ms
    · rw [e]
      simp
    · have : ¬ (mkA es n).length = ms.length := fun q => e (inside_eq (fit_mk hn) (mkA_ok eok n) mok q)
      have : (mkA es n).length < ms.length := by omega
      simp [e, this]
  have bn : ∀ n ∈ fitN es ms, ∀ k, (mkA ((ms, z) :: es) k).length = ms.length → beatA "within" [] ((ms, z) :: es) (n + 1) k = false := fun n hn k hk => by
    unfold beatA
    rw [within_eq, mkA_cons]
    have l := inside_len (fit_mk hn) (mkA_ok eok n) mok
    have : decide ((mkA ((ms, z) :: es) k).length < (mkA es n).length) = false := decide_eq_false (by omega)
    rw [this, Bool.and_false]
  have esame : sameN es ms = (fitN es ms).filter fun n => decide (mkA es n = ms) := by
    unfold sameN fitN
    rw [List.filter_filter]
    refine List.filter_congr fun n hn => ?_
    by_cases e : mkA es n = ms
    · have hl := List.mem_range.mp hn
      have : fitP es ms n = true := by
        unfold fitP
        unfold mkA at e
        rw [List.getElem?_eq_getElem hl] at e ⊢
        have e : es[n].1 = ms := e
        show inside es[n].1 ms = true
        rw [e]
        exact inside_refl ms
      simp [e, this]
    · simp [e]
  by_cases hs : sameN es ms = []
  · rw [if_pos hs]
    refine lawRes_ent (beatA_ok _ _ _) nd ⟨by rw [ef]; simp, fun o ho hne => ?_⟩
    rw [ef] at ho
    rcases List.mem_cons.mp ho with q | q
    · exact absurd q hne
    · obtain ⟨n, hn, rfl⟩ := List.mem_map.mp q
      rw [b0 n hn]
      have : ¬ mkA es n = ms := fun e => by
        have : n ∈ sameN es ms := by
          rw [esame]
          exact List.mem_filter.mpr ⟨hn, decide_eq_true e⟩
        rw [hs] at this
        cases this
      simp [this]
  · rw [if_neg hs]
    have self : ∀ k, (mkA ((ms, z) :: es) k).length = ms.length → beatA "within" [] ((ms, z) :: es) 0 k = false := fun k hk => by
      unfold beatA
      rw [within_eq, mkA_zero]
      have : decide ((mkA ((ms, z) :: es) k).length < ms.length) = false := decide_eq_false (by omega)
      rw [this, Bool.and_false]
    obtain ⟨s, hs1⟩ : ∃ s, s ∈ sameN es ms := by
      cases h : sameN es ms with
      | nil => exact absurd h hs
      | cons a b => exact ⟨a, by simp⟩
    have hs2 := hs1
    rw [esame] at hs2
    obtain ⟨s1, s2⟩ := List.mem_filter.mp hs2
    have s2 := of_decide_eq_true s2
    rw [lawRes_qua (beatA_ok _ _ _) nd (by rw [ef]; simp) fun n hw => ?_]
    · congr 1
      rw [ef, List.filter_cons]
      have m0 : maxB (0 :: (fitN es ms).map (· + 1)) (beatA "within" [] ((ms, z) :: es)) 0 = true := by
        unfold maxB
        rw [Bool.not_eq_true', List.any_eq_false]
        intro o ho
        rcases List.mem_cons.mp ho with q | q
        · subst q
          rw [self 0 rfl]
          exact Bool.false_ne_true
        · obtain ⟨n, hn, rfl⟩ := List.mem_map.mp q
          rw [bn n hn 0 rfl]
          exact Bool.false_ne_true
      rw [if_pos m0]
      congr 1
      rw [List.filter_map, esame]
      congr 1
      refine List.filter_congr fun n hn => ?_
      show maxB _ _ (n + 1) = _
      unfold maxB
      by_cases e : mkA es n = ms
      · rw [decide_eq_true e, Bool.not_eq_true', List.any_eq_false]
        intro o ho
        have hk : (mkA ((ms, z) :: es) (n + 1)).length = ms.length := by rw [mkA_cons, e]
        rcases List.mem_cons.mp ho with q | q
        · subst q
          rw [self _ hk]
          exact Bool.false_ne_true
        · obtain ⟨k, hk2, rfl⟩ := List.mem_map.mp q
          rw [bn k hk2 _ hk]
          exact Bool.false_ne_true
      · rw [decide_eq_false e, Bool.not_eq_false', List.any_eq_true]
        exact ⟨0, by simp, by rw [b0 n hn]; simp [e]⟩
    · have hn0 := hw.1
      rw [ef] at hn0
      rcases List.mem_cons.mp hn0 with q | q
      · subst q
        have := hw.2 (s + 1) (by rw [ef]; exact List.mem_cons_of_mem _ (List.mem_map_of_mem s1)) (by omega)
        rw [self _ (by rw [mkA_cons, s2])] at this
        cases this
      · obtain ⟨k, hk, rfl⟩ := List.mem_map.mp q
        have := hw.2 0 (by rw [ef]; simp) (by omega)
        rw [bn k hk 0 rfl] at this
        cases this
theorem eqvAll_ints : ∀ (a b : List Int), PyData.eqvAll (a.map PyData.int) (b.map PyData.int) = decide (a = b)
  | [], [] => rfl
  | [], y :: t => by simp [PyData.eqvAll]
  | x :: r, [] => by simp [PyData.eqvAll]
  | x :: r, y :: t => by
    have ih := eqvAll_ints r t
    rw [List.map_cons, List.map_cons]
    simp only [PyData.eqvAll, PyData.eqv]
    rw [ih, Bool.eq_iff_iff]
    simp
theorem dp_marks {K : PySem.W.Frag} {H : Hp} {v : V} {ms : List Int} (h : Xci.Mk H v ms) : Dp K H v (.tuple (ms.map PyData.int)) := by
  have q := dp_tup (K := K) h (flat0_ints ms)
  rw [toD_ints] at q
  exact q
theorem sh_marks (ns : List Int) : SeqAt.shaped (.tuple (ns.map PyData.int)) = true := by
  obtain ⟨a, b⟩ := lay_ints ns
  simp [SeqAt.shaped, PyData.canLay0, PyData.depth, a, b]
end Xci

namespace Xci
open PySem L2
/-! ### sorted tuples of ints; the cells of one form -/
def leC (c d : List Int) : Prop := HT.lexLt d c = false
theorem lex_eq : ∀ xs ys : List Int, HT.lexLt xs ys = false → HT.lexLt ys xs = false → xs = ys
  | [], [], _, _ => rfl
  | [], y :: ys, h, _ => by rw [HT.lexLt_nil_cons] at h; cases h
  | x :: xs, [], _, h => by rw [HT.lexLt_nil_cons] at h; cases h
  | x :: xs, y :: ys, h, k => by
    rw [HT.lexLt_cons] at h k
    by_cases e : x = y
    · subst e
      rw [if_pos rfl] at h k
      rw [lex_eq xs ys h k]
    · rw [if_neg e] at h
      rw [if_neg (fun q => e q.symm)] at k
      have a := of_decide_eq_false h
      have b := of_decide_eq_false k
      omega
theorem sortedU {cs ds : List (List Int)} (h : cs.Pairwise leC) (k : ds.Pairwise leC) (p : cs.Perm ds) : cs = ds :=
  List.Perm.eq_of_pairwise (le := leC) (fun a b _ _ x y => lex_eq a b y x) h k p
def unInt : V → Int
  | .int i => i
  | _ => 0
theorem unInts (ns : List Int) : (ns.map V.int).map unInt = ns := by
  rw [List.map_map]
  exact (List.map_congr_left fun _ _ => rfl).trans (List.map_id ns)
/-- the ints of the tuple at x -/
def kOf (H : Hp) : V → List Int
  | .ref t => match H t with
    | some (.tup vs) => vs.map unInt
    | _ => []
  | _ => []
theorem kOf_mk {H : Hp} {x : V} {c : List Int} (m : Xci.Mk H x c) : kOf H x = c := by
  obtain ⟨t, rfl, h⟩ := m
  show (match H t with
    | some (.tup vs) => vs.map unInt
    | _ => []) = c
  rw [h]
  exact unInts c
theorem mks_kOf {H : Hp} : ∀ {xs : List V} {cs : List (List Int)}, Mks H xs cs → xs.map (kOf H) = cs
  | _, _, .nil => rfl
  | _, _, .cons m r => by rw [List.map_cons, kOf_mk m, mks_kOf r]
/-- sorted(xs) of tuples with the contents cs -/
theorem sorted_rows {K : PySem.W.Frag} {H : Hp} {Q : VK} {a : Addr} {xs : List V} {cs : List (List Int)} (hs : SqL K H a xs) (m : Mks H xs cs)
    (G : ∀ (ys : List V) (ds : List (List Int)) (p : Addr), Mks H ys ds → ds.Pairwise leC → ds.Perm cs → H p = none → Q (.ref p) (upd H p (.lst ys))) : rSortedTI K [.ref a] H Q := by
  refine ⟨a, xs, kOf H, rfl, hs, fun x hx => ?_, fun ys p up perm free => ?_⟩
  · obtain ⟨i, hi⟩ := List.getElem?_of_mem hx
    obtain ⟨c, _, t, e, h⟩ := Paired.get m hi
    refine ⟨t, e, ?_⟩
    rw [kOf_mk ⟨t, e, h⟩]
    exact h
  · obtain ⟨ds, md, pd⟩ := Paired.perm perm m
    refine G ys ds p md ?_ pd free
    rw [← mks_kOf md, List.pairwise_map]
    exact up
theorem lay_rows : ∀ (cs : List (List Int)), PyData.canLayAll0 (cs.map fun c => PyData.tuple (c.map PyData.int)) = true ∧ PyData.depthAll (cs.map fun c => PyData.tuple (c.map PyData.int)) ≤ 1
  | [] => ⟨rfl, Nat.zero_le _⟩
  | c :: cs => by
    obtain ⟨a, b⟩ := lay_rows cs
    obtain ⟨d, e⟩ := lay_ints c
    rw [List.map_cons]
    refine ⟨by simp [PyData.canLayAll0, PyData.canLay0, a, d], ?_⟩
    rw [PyData.depthAll]
    refine Nat.max_le.mpr ⟨?_, b⟩
    simp [PyData.depth, e]
theorem sh_rows (cs : List (List Int)) : SeqAt.shaped (.list (cs.map fun c => PyData.tuple (c.map PyData.int))) = true := by
  obtain ⟨a, b⟩ := lay_rows cs
  have d : PyData.depth (.list (cs.map fun c => PyData.tuple (c.map PyData.int))) ≤ 64 := by
    simp only [PyData.depth]
    omega
  unfold SeqAt.shaped
  rw [decide_eq_true d, Bool.and_true]
  simpa [PyData.canLay0] using a
theorem dp_rows {K : PySem.W.Frag} {H : Hp} : ∀ {ys : List V} {cs : List (List Int)}, Mks H ys cs → DpAll K H ys (cs.map fun c => PyData.tuple (c.map PyData.int))
  | _, _, .nil => .nil
  | _, _, .cons m r => .cons (dp_marks m) (dp_rows r)
/-- u != v of two lists of the same tuples of ints: no -/
theorem ne_rows {K : PySem.W.Frag} {H : Hp} {a b : Addr} {xs ys : List V} {cs : List (List Int)} {Q : V → Hp → Prop} (ha : H a = some (.lst xs)) (hb : H b = some (.lst ys)) (ma : Mks H xs cs) (mb : Mks H ys cs) (q : Q (.bl false) H) : rNeD K (.ref a) (.ref b) H Q := by
  refine ⟨_, _, .lst (SqL.of ha) (dp_rows ma), .lst (SqL.of hb) (dp_rows mb), sh_rows cs, sh_rows cs, ?_⟩
  rw [eqv_same (sh_rows cs)]
  exact q
/-- the cells of each form, told in order -/
structure Sm (fs : List (Option Str)) (cs : List (List Int)) : Prop where
  up : cs.Pairwise leC
  of : ∃ zs : List Str, zs.Nodup ∧ (∀ z, z ∈ zs ↔ some z ∈ fs) ∧ cs.Perm (zs.map fun z => nat2 (spots fs z))
theorem Sm.one {fs : List (Option Str)} {cs ds : List (List Int)} (h : Sm fs cs) (k : Sm fs ds) : cs = ds := by
  obtain ⟨zs, n, a, p⟩ := h.of
  obtain ⟨ys, m, b, q⟩ := k.of
  have e : zs.Perm ys := (List.perm_ext_iff_of_nodup n m).mpr fun z => (a z).trans (b z).symm
  exact sortedU h.up k.up (p.trans ((e.map _).trans q.symm))
theorem Sm.few {fs : List (Option Str)} {cs : List (List Int)} (h : Sm fs cs) : cs.length ≤ fs.length := by
  obtain ⟨zs, n, a, p⟩ := h.of
  rw [p.length_eq, List.length_map]
  have q : (zs.map some).length ≤ fs.length := List.Nodup.length_le_of_subset (by
    unfold List.Nodup
    rw [List.pairwise_map]
    exact n.imp fun h e => h (Option.some.inj e)) fun x hx => by
      obtain ⟨z, hz, rfl⟩ := List.mem_map.mp hx
      exact (a z).mp hz
  rwa [List.length_map] at q
theorem Sm.each {fs : List (Option Str)} {cs : List (List Int)} (h : Sm fs cs) {c : List Int} (m : c ∈ cs) : ∃ z, some z ∈ fs ∧ c = nat2 (spots fs z) := by
  obtain ⟨zs, n, a, p⟩ := h.of
  obtain ⟨z, hz, e⟩ := List.mem_map.mp (p.subset m)
  exact ⟨z, (a z).mp hz, e.symm⟩
/-- under other names -/
theorem Sm.ren {fs : List (Option Str)} {cs : List (List Int)} (h : Sm fs cs) (ren : Str → Str) (inj : ∀ x y, some x ∈ fs → some y ∈ fs → ren x = ren y → x = y) : Sm (fs.map (Option.map ren)) cs := by
  obtain ⟨zs, n, a, p⟩ := h.of
  have sp : ∀ z, some z ∈ fs → spots (fs.map (Option.map ren)) (ren z) = spots fs z := fun z hz => by
    unfold spots
    rw [List.length_map]
    refine List.filter_congr fun i hi => ?_
    rw [decide_eq_decide, List.getElem?_map]
    cases e : fs[i]? with
    | none => simp
    | some f =>
      cases f with
      | none => simp
      | some y =>
        have my : some y ∈ fs := List.mem_of_getElem? e
        constructor
        · intro q
          have q' : ren y = ren z := Option.some.inj (Option.some.inj q)
          rw [inj y z my hz q']
        · intro q
          have q' : y = z := Option.some.inj (Option.some.inj q)
          rw [q'] <;> rfl
  refine ⟨h.up, zs.map ren, ?_, fun z => ?_, ?_⟩
  · unfold List.Nodup
    rw [List.pairwise_map]
    refine List.Pairwise.imp_of_mem (fun {x y} hx hy ne e => ne (inj x y ((a x).mp hx) ((a y).mp hy) e)) n
  · rw [List.mem_map, List.mem_map]
    constructor
    · rintro ⟨y, hy, rfl⟩
      exact ⟨some y, (a y).mp hy, rfl⟩
    · rintro ⟨f, hf, e⟩
      cases f with
      | none => cases e
      | some y => exact ⟨y, (a y).mpr hf, Option.some.inj e⟩
  · rw [List.map_map]
    refine p.trans (List.Perm.of_eq (List.map_congr_left fun z hz => ?_))
    show _ = nat2 (spots (fs.map (Option.map ren)) (ren z))
    rw [sp z ((a z).mp hz)]
/-- one form in the place of another -/
def joinF (z1 z2 : Str) (fs : List (Option Str)) : List (Option Str) := fs.map fun f => if f = some z2 then some z1 else f
/-- the cells that have the one or the other form -/
def bothN (z1 z2 : Str) (fs : List (Option Str)) (i : Nat) : List Nat := (List.range i).filter fun j => decide (fs[j]? = some (some z1) ∨ fs[j]? = some (some z2))
theorem both_next {fs : List (Option Str)} {z1 z2 : Str} {i : Nat} {f : Option Str} (e : fs[i]? = some f) : bothN z1 z2 fs (i + 1) = bothN z1 z2 fs i ++ (if f = some z1 ∨ f = some z2 then [i] else []) := by
  unfold bothN
  rw [List.range_succ, List.filter_append, List.filter_cons, List.filter_nil, e]
  have q : (some f = some (some z1) ∨ some f = some (some z2)) ↔ (f = some z1 ∨ f = some z2) := ⟨fun h => h.imp Option.some.inj Option.some.inj, fun h => h.imp (congrArg some) (congrArg some)⟩
  by_cases c : f = some z1 ∨ f = some z2
  · rw [if_pos c, if_pos (decide_eq_true (q.mpr c))]
  · rw [if_neg c, if_neg (fun h => c (q.mp (of_decide_eq_true h)))]
theorem both_len (z1 z2 : Str) (fs : List (Option Str)) (i : Nat) : (bothN z1 z2 fs i).length ≤ i := by
  have h := List.length_filter_le (fun j => decide (fs[j]? = some (some z1) ∨ fs[j]? = some (some z2))) (List.range i)
  rwa [List.length_range] at h
theorem join_both (z1 z2 : Str) (fs : List (Option Str)) : spots (joinF z1 z2 fs) z1 = bothN z1 z2 fs fs.length := by
  unfold spots bothN joinF
  rw [List.length_map]
  refine List.filter_congr fun i hi => ?_
  rw [decide_eq_decide, List.getElem?_map]
  cases e : fs[i]? with
  | none => simp
  | some f =>
    show some (if f = some z2 then some z1 else f) = some (some z1) ↔ _
    by_cases c : f = some z2
    · rw [if_pos c, c]
      simp
    · rw [if_neg c]
      constructor
      · exact .inl
      · rintro (h | h)
        · exact h
        · exact absurd (Option.some.inj h) c
theorem join_else {z1 z2 z : Str} (fs : List (Option Str)) (h1 : z ≠ z1) (h2 : z ≠ z2) : spots (joinF z1 z2 fs) z = spots fs z := by
  unfold spots joinF
  rw [List.length_map]
  refine List.filter_congr fun i hi => ?_
  rw [decide_eq_decide, List.getElem?_map]
  cases e : fs[i]? with
  | none => simp
  | some f =>
    show some (if f = some z2 then some z1 else f) = some (some z) ↔ _
    by_cases c : f = some z2
    · rw [if_pos c, c]
      constructor
      · intro q
        exact absurd (Option.some.inj (Option.some.inj q)).symm h1
      · intro q
        exact absurd (Option.some.inj (Option.some.inj q)).symm h2
    · rw [if_neg c]
theorem mem_join {z1 z2 z : Str} {fs : List (Option Str)} (m2 : some z2 ∈ fs) : some z ∈ joinF z1 z2 fs ↔ z = z1 ∨ (z ≠ z2 ∧ some z ∈ fs) := by
  unfold joinF
  rw [List.mem_map]
  constructor
  · rintro ⟨f, hf, e⟩
    by_cases c : f = some z2
    · rw [if_pos c] at e
      exact .inl (Option.some.inj e).symm
    · rw [if_neg c] at e
      exact .inr ⟨fun q => c (e.trans (congrArg some q)), e ▸ hf⟩
  · rintro (h | ⟨h, m⟩)
    · exact ⟨some z2, m2, by rw [if_pos rfl, h]⟩
    · exact ⟨some z, m, if_neg fun q => h (Option.some.inj q)⟩
/-- does the tuple begin outside of both? -/
def apart (b : List Nat) (c : List Int) : Bool := !decide (c.headD 0 ∈ nat2 b)
theorem mem_nat2 {j : Nat} {js : List Nat} : (j : Int) ∈ nat2 js ↔ j ∈ js := by
  unfold nat2
  rw [List.mem_map]
  constructor
  · rintro ⟨k, hk, e⟩
    have : k = j := by omega
    exact this ▸ hk
  · exact fun h => ⟨j, h, rfl⟩
theorem mem_both {z1 z2 : Str} {fs : List (Option Str)} {j : Nat} : j ∈ bothN z1 z2 fs fs.length ↔ fs[j]? = some (some z1) ∨ fs[j]? = some (some z2) := by
  unfold bothN
  rw [List.mem_filter, List.mem_range, decide_eq_true_eq]
  exact ⟨fun h => h.2, fun h => ⟨h.elim (fun q => (List.getElem?_eq_some_iff.mp q).1) (fun q => (List.getElem?_eq_some_iff.mp q).1), h⟩⟩
theorem apart_spots {z1 z2 z : Str} {fs : List (Option Str)} (m : some z ∈ fs) : apart (bothN z1 z2 fs fs.length) (nat2 (spots fs z)) = decide (z ≠ z1 ∧ z ≠ z2) := by
  obtain ⟨j, js, e⟩ : ∃ j js, spots fs z = j :: js := by
    cases e : spots fs z with
    | nil => exact absurd e (spots_ne m)
    | cons j js => exact ⟨j, js, rfl⟩
  have at_ : fs[j]? = some (some z) := spots_at.mp (by rw [e]; exact List.mem_cons_self)
  unfold apart
  rw [e]
  show (!decide ((j : Int) ∈ nat2 (bothN z1 z2 fs fs.length))) = _
  rw [Bool.eq_iff_iff, Bool.not_eq_true', decide_eq_false_iff_not, decide_eq_true_eq, mem_nat2, mem_both, at_]
  constructor
  · intro h
    exact ⟨fun q => h (.inl (by rw [q])), fun q => h (.inr (by rw [q]))⟩
  · rintro ⟨h1, h2⟩ (q | q)
    · exact h1 (Option.some.inj (Option.some.inj q))
    · exact h2 (Option.some.inj (Option.some.inj q))
/-- the tuples that begin elsewhere, and both: these are told of the joined one -/
theorem Sm.join {fs : List (Option Str)} {cs ds : List (List Int)} {z1 z2 : Str} (h : Sm fs cs) (m1 : some z1 ∈ fs) (m2 : some z2 ∈ fs) (ne : z1 ≠ z2) (up : ds.Pairwise leC)
    (p : ds.Perm (cs.filter (apart (bothN z1 z2 fs fs.length)) ++ [nat2 (bothN z1 z2 fs fs.length)])) : Sm (joinF z1 z2 fs) ds := by
  obtain ⟨zs, n, a, q⟩ := h.of
  have mid : (zs.filter fun z => decide (z ≠ z2)).Perm ((zs.filter fun z => decide (z ≠ z1 ∧ z ≠ z2)) ++ [z1]) := by
    refine (List.perm_ext_iff_of_nodup (n.sublist List.filter_sublist) (List.nodup_append.mpr ⟨n.sublist List.filter_sublist, by simp, fun x hx y hy e => ?_⟩)).mpr fun z => ?_
    · rw [List.mem_singleton.mp hy] at e
      have := of_decide_eq_true (List.mem_filter.mp hx).2
      exact this.1 e
    · rw [List.mem_append, List.mem_filter, List.mem_filter, List.mem_singleton, decide_eq_true_eq, decide_eq_true_eq]
      constructor
      · rintro ⟨x, y⟩
        by_cases e : z = z1
        · exact .inr e
        · exact .inl ⟨x, e, y⟩
      · rintro (⟨x, _, y⟩ | e)
        · exact ⟨x, y⟩
        · rw [e]
          exact ⟨(a z1).mpr m1, ne⟩
  refine ⟨up, zs.filter fun z => decide (z ≠ z2), n.sublist List.filter_sublist, fun z => ?_, ?_⟩
  · rw [mem_join m2, List.mem_filter, decide_eq_true_eq, a z]
    constructor
    · rintro ⟨x, y⟩
      exact .inr ⟨y, x⟩
    · rintro (e | ⟨x, y⟩)
      · rw [e]
        exact ⟨m1, ne⟩
      · exact ⟨y, x⟩
  · refine p.trans (List.Perm.trans ?_ (mid.map _).symm)
    rw [List.map_append]
    refine List.Perm.append ?_ (List.Perm.of_eq (by rw [List.map_cons, List.map_nil, join_both]))
    refine (q.filter _).trans (List.Perm.of_eq ?_)
    rw [List.filter_map]
    have e1 : zs.filter (apart (bothN z1 z2 fs fs.length) ∘ fun z => nat2 (spots fs z)) = zs.filter fun z => decide (z ≠ z1 ∧ z ≠ z2) := List.filter_congr fun z hz => apart_spots ((a z).mp hz)
    rw [e1]
    refine List.map_congr_left fun z hz => ?_
    have := of_decide_eq_true (List.mem_filter.mp hz).2
    rw [join_else fs this.1 this.2]
theorem join_len (z1 z2 : Str) (fs : List (Option Str)) : (joinF z1 z2 fs).length = fs.length := List.length_map ..
/-- a joined table's forms are forms of a table -/
theorem FormsOk.join {n : Nat} {fs : List (Option Str)} {z1 z2 : Str} (ok : FormsOk n fs) (m1 : some z1 ∈ fs) (m2 : some z2 ∈ fs) (rise : ∃ zs, Rising fs zs) : FormsOk n (joinF z1 z2 fs) := by
  obtain ⟨zs, r⟩ := rise
  refine ⟨by rw [join_len]; exact ok.len, ok.few, fun z hz => ?_, fun us ru => ?_⟩
  · rcases (mem_join m2).mp hz with e | ⟨_, m⟩
    · rw [e]; exact ok.word z1 m1
    · exact ok.word z m
  · have sub : us.length ≤ zs.length := List.Nodup.length_le_of_subset ru.nd fun z hz => (r.all z).mpr (by
      rcases (mem_join m2).mp ((ru.all z).mp hz) with e | ⟨_, m⟩
      · rw [e]; exact m1
      · exact m)
    have := ok.unlike zs r
    omega
end Xci

namespace Xci
open PySem L2
/-! ### another source of draws: its state stands ahead of its count -/
def Dice (H : Hp) (a l : Addr) : Prop := ∃ (ns : List Int) (i c s n : Int), H a = some (.lst [.ref l, .int i, .int c, .int s, .int n]) ∧ H l = some (.lst (ns.map V.int)) ∧ a ≠ l ∧ (∀ z ∈ ns, 0 ≤ z) ∧ 0 ≤ i ∧ i ≤ (ns.length : Int) ∧ 0 ≤ c ∧ 0 ≤ s ∧ s < 2147483647
theorem Dice.is {H : Hp} {a l : Addr} (d : Dice H a l) : ∃ ys, H a = some (.lst ys) := by
  obtain ⟨ns, i, c, s, n, h, _⟩ := d
  exact ⟨_, h⟩
theorem Dice.is' {H : Hp} {a l : Addr} (d : Dice H a l) : ∃ ys, H l = some (.lst ys) := by
  obtain ⟨ns, i, c, s, n, _, h, _⟩ := d
  exact ⟨_, h⟩
theorem Dice.tfr {H H' : Hp} {a l : Addr} (d : Dice H a l) (f : Fr a H H') : TFr H H' := by
  obtain ⟨ys, h⟩ := d.is
  exact TFr.fr h f
theorem Dice.keep {H H' : Hp} {a l : Addr} (d : Dice H a l) (f : Same H H') : Dice H' a l := by
  obtain ⟨ns, i, c, s, n, h, hl, r⟩ := d
  exact ⟨ns, i, c, s, n, f _ _ h, f _ _ hl, r⟩
theorem Dice.put {H : Hp} {a l q : Addr} {o : HO} (d : Dice H a l) (n1 : q ≠ a) (n2 : q ≠ l) : Dice (upd H q o) a l := by
  obtain ⟨ns, i, c, s, n, h, hl, r⟩ := d
  exact ⟨ns, i, c, s, n, by rw [upd_ne n1.symm]; exact h, by rw [upd_ne n2.symm]; exact hl, r⟩
theorem Dice.ne {H : Hp} {a l q : Addr} (d : Dice H a l) (h : H q = Option.none) : q ≠ a := by
  obtain ⟨ys, z⟩ := d.is
  exact (ne_of_none z h).symm
theorem Dice.ne' {H : Hp} {a l q : Addr} (d : Dice H a l) (h : H q = Option.none) : q ≠ l := by
  obtain ⟨ys, z⟩ := d.is'
  exact (ne_of_none z h).symm
theorem Dice.free {H H' : Hp} {a l q : Addr} (d : Dice H' a l) (f : Fr a H H') (h : H' q = Option.none) : H q = Option.none := by
  have n := d.ne h
  cases e : H q with
  | none => rfl
  | some u => rw [f q u e n] at h; cases h
def spDraw : Sp := fun vs H Q _ => ∃ (a l : Addr) (m : Int), vs = [.ref a, .int m] ∧ Dice H a l ∧ 0 < m ∧ m < 1073741824 ∧ ∀ (d : Int) (H' : Hp), 0 ≤ d → d < m → Dice H' a l → Fr a H H' → Q (.int d) H'
def spDice (K : PySem.W.Frag) : Sp := fun vs H Q _ => ∃ (a : Addr) (ns : List Int), vs = [.ref a] ∧ SqL K H a (ns.map V.int) ∧ ns.length ≤ 63 ∧ ∀ (d l : Addr) (H' : Hp), Dice H' d l → Same H H' → Q (.ref d) H'
def spRare (K : PySem.W.Frag) : Sp := fun vs H Q _ => ∃ (a : Addr) (ns : List Int) (m : Int), vs = [.ref a, .int m] ∧ SqL K H a (ns.map V.int) ∧ ns.length ≤ 63 ∧ 0 < m ∧ ∀ (d : Int) (H' : Hp), 0 ≤ d → d < m → Same H H' → Q (.int d) H'
def spOrder : Sp := fun vs H Q _ => ∃ (a l : Addr) (m : Nat), vs = [.ref a, .int (m : Int)] ∧ Dice H a l ∧ m ≤ 64 ∧
  ∀ (q : Addr) (js : List Nat) (H' : Hp), js.Perm (List.range m) → H' q = some (.lst ((nat2 js).map V.int)) → H q = Option.none → Dice H' a l → Fr a H H' → Q (.ref q) H'
def spAllCells : Sp := fun vs H Q _ => ∃ n : Int, vs = [.int n] ∧ 0 ≤ n ∧ n ≤ 6 ∧ ∀ (q : Addr) (ys : List V) (cs : List (List Int)) (H' : Hp), H' q = some (.lst ys) → Mks H' ys cs → cs.Perm (lots (rng n)) → Same H H' → H q = Option.none → Q (.ref q) H'
def spFamilyD : Sp := fun vs H Q _ => ∃ (a l : Addr) (mm mc : Int), vs = [.ref a, .int mm, .int mc] ∧ Dice H a l ∧ 0 ≤ mm ∧ mm ≤ 6 ∧ 1 ≤ mc ∧ mc ≤ 24 ∧
  ∀ (v : V) (p : Addr) (many : Int) (ys : List V) (cells : List (List Int)) (H' : Hp), Tup H' v [.int many, .ref p] → H' p = some (.tup ys) → Mks H' ys cells → FamOk many cells → Dice H' a l → Fr a H H' → Q v H'
def spSomeT : Sp := fun vs H Q _ => ∃ (a l : Addr) (v : V) (ms : List Int), vs = [.ref a, v] ∧ Dice H a l ∧ Xci.Mk H v ms ∧ ms.length ≤ 64 ∧ ∀ (u : V) (ks : List Int) (H' : Hp), Xci.Mk H' u ks → ks.Sublist ms → Dice H' a l → Fr a H H' → Q u H'
def spSomeL : Sp := fun vs H Q _ => ∃ (a l p : Addr) (ms : List Int), vs = [.ref a, .ref p] ∧ Dice H a l ∧ H p = some (.lst (ms.map V.int)) ∧ p ≠ a ∧ ms.length ≤ 64 ∧ ∀ (u : V) (ks : List Int) (H' : Hp), Xci.Mk H' u ks → ks.Sublist ms → Dice H' a l → Fr a H H' → Q u H'
def spSome : Sp := fun vs H Q E => spSomeT vs H Q E ∨ spSomeL vs H Q E
/-! ### rules -/
/-- a strike (of y where x is), or a lead (from x to y) -/
structure Rl where
  st : Bool
  x : List Int
  y : List Int
def Rl.word (r : Rl) : Str := if r.st then "strike" else "lead"
def RlV (H : Hp) (v : V) (r : Rl) : Prop := ∃ u w, Tup H v [.str r.word, u, w] ∧ Xci.Mk H u r.x ∧ Xci.Mk H w r.y
theorem RlV.keep {H H' : Hp} {v : V} {r : Rl} (f : TFr H H') (h : RlV H v r) : RlV H' v r := by
  obtain ⟨u, w, a, b, c⟩ := h
  exact ⟨u, w, a.keep f, Tup.keep f b, Tup.keep f c⟩
structure RlOk (r : Rl) : Prop where
  x : MarksOk 6 r.x
  y : MarksOk 6 r.y
abbrev Rls (H : Hp) (vs : List V) (rs : List Rl) : Prop := Paired (fun v r => RlV H v r) vs rs
theorem Rls.keep {H H' : Hp} {vs : List V} {rs : List Rl} (f : TFr H H') (t : Rls H vs rs) : Rls H' vs rs := Paired.mapP t fun _ _ h => RlV.keep f h
def lessM (c ys : List Int) : List Int := c.filter fun m => !decide (m ∈ ys)
def stepR (r : Rl) (c : List Int) : List Int := if r.st = true then (if inside r.x c = true then lessM c r.y else c) else (if r.x = c then r.y else c)
def behindR (rs : List Rl) (c : List Int) : List Int := rs.foldl (fun c r => stepR r c) c
theorem stepR_ok {r : Rl} {c : List Int} (ok : RlOk r) (h : MarksOk 6 c) : MarksOk 6 (stepR r c) := by
  unfold stepR
  split
  · split
    · exact h.sub List.filter_sublist
    · exact h
  · split
    · exact ok.y
    · exact h
theorem behindR_ok : ∀ {rs : List Rl} {c : List Int}, (∀ r ∈ rs, RlOk r) → MarksOk 6 c → MarksOk 6 (behindR rs c)
  | [], _, _, h => h
  | r :: rs, c, ok, h => behindR_ok (rs := rs) (fun x hx => ok x (List.mem_cons_of_mem _ hx)) (stepR_ok (ok r List.mem_cons_self) h)
theorem behindR_app (rs ss : List Rl) (c : List Int) : behindR (rs ++ ss) c = behindR ss (behindR rs c) := List.foldl_append ..
theorem behindR_next {rs : List Rl} {i : Nat} {r : Rl} (c : List Int) (h : rs[i]? = some r) : behindR (rs.take (i + 1)) c = stepR r (behindR (rs.take i) c) := by
  rw [List.take_add_one, h, behindR_app] <;> rfl
theorem lessM_lessM (c ys : List Int) : lessM (lessM c ys) ys = lessM c ys := by
  unfold lessM
  rw [List.filter_filter]
  refine List.filter_congr fun m _ => ?_
  rw [Bool.and_self]
theorem strike_twice (r : Rl) (h : r.st = true) (c : List Int) : stepR r (stepR r c) = stepR r c := by
  unfold stepR
  rw [if_pos h, if_pos h]
  by_cases e : inside r.x c = true
  · rw [if_pos e]
    split
    · exact lessM_lessM _ _
    · rfl
  · rw [if_neg e, if_neg e]
theorem lessM_next {c : List Int} {i : Nat} {m : Int} (ys : List Int) (h : c[i]? = some m) : lessM (c.take (i + 1)) ys = lessM (c.take i) ys ++ (if (!decide (m ∈ ys)) = true then [m] else []) := by
  unfold lessM
  rw [List.take_add_one, h, List.filter_append]
  refine congrArg _ ?_
  show ([m] : List Int).filter _ = _
  rw [List.filter_cons, List.filter_nil]
theorem lessM_len (c ys : List Int) (i : Nat) : (lessM (c.take i) ys).length ≤ i := Nat.le_trans (List.length_filter_le _ _) (List.length_take_le _ _)
theorem eqv_marks (a b : List Int) : PyData.eqv (.tuple (a.map PyData.int)) (.tuple (b.map PyData.int)) = decide (a = b) := by
  simp only [PyData.eqv]
  exact eqvAll_ints a b
theorem eq_marks {K : PySem.W.Frag} {H : Hp} {u v : V} {a b : List Int} {Q : V → Hp → Prop} (hu : Xci.Mk H u a) (hv : Xci.Mk H v b) (q : Q (.bl (decide (a = b))) H) : rEqD K u v H Q := by
  refine ⟨_, _, dp_marks hu, dp_marks hv, sh_marks a, sh_marks b, ?_⟩
  rw [eqv_marks]
  exact q
/-- rules compare -/
def rlD (r : Rl) : PyData := .tuple [.str r.word, .tuple (r.x.map PyData.int), .tuple (r.y.map PyData.int)]
theorem dp_rl {K : PySem.W.Frag} {H : Hp} {v : V} {r : Rl} (h : RlV H v r) : Dp K H v (rlD r) := by
  obtain ⟨u, w, ⟨p, rfl, hp⟩, mu, mw⟩ := h
  exact .tup (sqT hp) (.cons (.str _) (.cons (dp_marks mu) (.cons (dp_marks mw) .nil)))
theorem dp_rls {K : PySem.W.Frag} {H : Hp} : ∀ {ys : List V} {rs : List Rl}, Rls H ys rs → DpAll K H ys (rs.map rlD)
  | _, _, .nil => .nil
  | _, _, .cons m r => .cons (dp_rl m) (dp_rls r)
theorem lay_rl (r : Rl) : PyData.canLay0 (rlD r) = true ∧ PyData.depth (rlD r) ≤ 2 := by
  obtain ⟨a, b⟩ := lay_ints r.x
  obtain ⟨c, d⟩ := lay_ints r.y
  have w : PyData.strOk r.word = true := by
    unfold Rl.word
    cases r.st <;> decide +kernel
  refine ⟨by simp [rlD, PyData.canLay0, PyData.canLayAll0, a, c, w], ?_⟩
  simp [rlD, PyData.depth, PyData.depthAll, b, d]
theorem lay_rls : ∀ (rs : List Rl), PyData.canLayAll0 (rs.map rlD) = true ∧ PyData.depthAll (rs.map rlD) ≤ 2
  | [] => ⟨rfl, Nat.zero_le _⟩
  | r :: rs => by
    obtain ⟨a, b⟩ := lay_rls rs
    obtain ⟨c, d⟩ := lay_rl r
    rw [List.map_cons]
    refine ⟨by rw [PyData.canLayAll0, a, c] <;> rfl, ?_⟩
    rw [PyData.depthAll]
    exact Nat.max_le.mpr ⟨d, b⟩
theorem sh_rls (rs : List Rl) : SeqAt.shaped (.list (rs.map rlD)) = true := by
  obtain ⟨a, b⟩ := lay_rls rs
  have d : PyData.depth (.list (rs.map rlD)) ≤ 64 := by
    simp only [PyData.depth]
    omega
  unfold SeqAt.shaped
  rw [decide_eq_true d, Bool.and_true]
  simpa [PyData.canLay0] using a
theorem ne_rls {K : PySem.W.Frag} {H : Hp} {a b : Addr} {xs ys : List V} {rs : List Rl} {Q : V → Hp → Prop} (ha : H a = some (.lst xs)) (hb : H b = some (.lst ys)) (ma : Rls H xs rs) (mb : Rls H ys rs) (q : Q (.bl false) H) : rNeD K (.ref a) (.ref b) H Q := by
  refine ⟨_, _, .lst (SqL.of ha) (dp_rls ma), .lst (SqL.of hb) (dp_rls mb), sh_rls rs, sh_rls rs, ?_⟩
  rw [eqv_same (sh_rls rs)]
  exact q
theorem ne_mk {K : PySem.W.Frag} {H : Hp} {u v : V} {ms : List Int} {Q : V → Hp → Prop} (hu : Xci.Mk H u ms) (hv : Xci.Mk H v ms) (q : Q (.bl false) H) : rNeD K u v H Q := ne_tup hu hv (ok_intsV ms) q
def spLawBehind : Sp := fun vs H Q _ => ∃ (p : Addr) (v : V) (ys : List V) (rs : List Rl) (c : List Int), vs = [.ref p, v] ∧ H p = some (.lst ys) ∧ Rls H ys rs ∧ (∀ r ∈ rs, RlOk r) ∧ Xci.Mk H v c ∧ MarksOk 6 c ∧ ∀ (u : V) (H' : Hp), Xci.Mk H' u (behindR rs c) → Same H H' → Q u H'
def spLawRule : Sp := fun vs H Q _ => ∃ (a l p : Addr) (many : Int) (ys : List V) (cells : List (List Int)), vs = [.ref a, .int many, .ref p] ∧ Dice H a l ∧ 0 ≤ many ∧ many ≤ 6 ∧ H p = some (.tup ys) ∧ Mks H ys cells ∧ cells ≠ [] ∧ cells.length ≤ 24 ∧ (∀ c ∈ cells, MarksOk 6 c) ∧
  ∀ (v : V) (r : Rl) (H' : Hp), RlV H' v r → RlOk r → Dice H' a l → Fr a H H' → Q v H'
def spIsRule : Sp := fun vs H Q _ => ∃ (v : V) (r : Rl), vs = [v] ∧ RlV H v r ∧ RlOk r ∧ ∀ H', Same H H' → Q (.bl true) H'
/-- a list or a tuple of rules -/
structure RlsAt (w : Bool) (H : Hp) (p : Addr) (ys : List V) (rs : List Rl) : Prop where
  at_ : H p = some (if w = true then .lst ys else .tup ys)
  rl : Rls H ys rs
  ok : ∀ r ∈ rs, RlOk r
  few : rs.length ≤ 20
theorem RlsAt.keep {w : Bool} {H H' : Hp} {p : Addr} {ys : List V} {rs : List Rl} (h : RlsAt w H p ys rs) (s : Same H H') : RlsAt w H' p ys rs := ⟨s _ _ h.at_, h.rl.keep (TFr.same s), h.ok, h.few⟩
def spAreRules (w : Bool) : Sp := fun vs H Q _ => ∃ (p : Addr) (ys : List V) (rs : List Rl), vs = [.ref p] ∧ RlsAt w H p ys rs ∧ ∀ H', Same H H' → Q (.bl true) H'
def spNeedRules (w : Bool) : Sp := fun vs H Q _ => ∃ (p : Addr) (ys : List V) (rs : List Rl), vs = [.ref p] ∧ RlsAt w H p ys rs ∧ ∀ H', Same H H' → Q .non H'
def spBehind (w : Bool) : Sp := fun vs H Q _ => ∃ (p : Addr) (v : V) (ys : List V) (rs : List Rl) (c : List Int), vs = [.ref p, v] ∧ RlsAt w H p ys rs ∧ Xci.Mk H v c ∧ MarksOk 6 c ∧ ∀ (u : V) (H' : Hp), Xci.Mk H' u (behindR rs c) → Same H H' → Q u H'
def spEither (f : Bool → Sp) : Sp := fun vs H Q E => f true vs H Q E ∨ f false vs H Q E
theorem ok_either {P : Program} {w : World} {K : PySem.W.Frag} {mg : Str → Option Value} {base : Heap} {f : Addr} {fd : FuncData} {ps : List Str} {k : Nat} {sp sp' : Sp} (g : FnOk P w K mg base CX0 k f fd ps sp) (g' : FnOk P w K mg base CX0 k f fd ps sp') : FnOk P w K mg base CX0 k f fd ps (fun vs H Q E => sp vs H Q E ∨ sp' vs H Q E) :=
  ⟨fun vs H Q E h => h.elim (g.len vs H Q E) (g'.len vs H Q E), fun A outer s H args us vs Q E hr he hb hv hs => hs.elim (fun h => g.run A outer s H args us vs Q E hr he hb hv h) (fun h => g'.run A outer s H args us vs Q E hr he hb hv h)⟩
end Xci

namespace Xci
open PySem PySem.Spec PyProof.Rows L2
/-! ### tables that books make, in any of the four manners -/
theorem ok_imp {P : Program} {w : World} {K : PySem.W.Frag} {mg : Str → Option Value} {base : Heap} {f : Addr} {fd : FuncData} {ps : List Str} {k : Nat} {sp sp' : Sp} (g : FnOk P w K mg base CX0 k f fd ps sp) (h : ∀ vs H Q E, sp' vs H Q E → sp vs H Q E) : FnOk P w K mg base CX0 k f fd ps sp' :=
  ⟨fun vs H Q E q => g.len vs H Q E (h _ _ _ _ q), fun A outer s H args us vs Q E hr he hb hv q => g.run A outer s H args us vs Q E hr he hb hv (h _ _ _ _ q)⟩
theorem ok_both {P : Program} {w : World} {K : PySem.W.Frag} {mg : Str → Option Value} {base : Heap} {f : Addr} {fd : FuncData} {ps : List Str} {k : Nat} {sp sp' : Sp} (g : FnOk P w K mg base CX0 k f fd ps sp) (g' : FnOk P w K mg base CX0 k f fd ps sp') : FnOk P w K mg base CX0 k f fd ps (fun vs H Q E => sp vs H Q E ∨ sp' vs H Q E) :=
  ⟨fun vs H Q E h => h.elim (g.len vs H Q E) (g'.len vs H Q E), fun A outer s H args us vs Q E hr he hb hv hs => hs.elim (fun h => g.run A outer s H args us vs Q E hr he hb hv h) (fun h => g'.run A outer s H args us vs Q E hr he hb hv h)⟩
theorem n_row3 {man : Str} (h : Man man) : man = "row" ∨ (man ≠ "row" ∧ Man3 man) := by
  rcases h with rfl | rfl | rfl | rfl
  · exact .inl rfl
  · exact .inr ⟨by decide +kernel, .inl rfl⟩
  · exact .inr ⟨by decide +kernel, .inr (.inl rfl)⟩
  · exact .inr ⟨by decide +kernel, .inr (.inr rfl)⟩
theorem n_roww : ("row" : Str) ≠ "weights" := by decide +kernel
/-- the number of the entry that speaks at a cell, in any manner -/
def whoN (man : Str) (ws : List Int) (es : List Ent) (ms : List Int) : Option Nat :=
  if man = "row" then (fitN es ms).head? else match lawRes (fitN es ms) (beatA man ws es) with
    | .ent j => some j
    | _ => none
/-- the form that is heard at a cell -/
def heard (man : Str) (ws : List Int) (es : List Ent) (ms : List Int) : Option Str := match whoN man ws es ms with
  | some j => (es[j]?).map (·.2)
  | none => none
def heardAll (man : Str) (ws : List Int) (es : List Ent) (cells : List (List Int)) : List (Option Str) := cells.map (heard man ws es)
def numV : Option Nat → V
  | some j => .int (j : Int)
  | none => .non
theorem who_row (ws : List Int) (es : List Ent) (ms : List Int) : numV (whoN "row" ws es ms) = hd1 (fitN es ms) := by
  unfold whoN
  rw [if_pos rfl]
  cases fitN es ms <;> rfl
theorem who_res {man : Str} (h : man ≠ "row") (ws : List Int) (es : List Ent) (ms : List Int) : numV (whoN man ws es ms) = resV (lawRes (fitN es ms) (beatA man ws es)) := by
  unfold whoN
  rw [if_neg h]
  cases lawRes (fitN es ms) (beatA man ws es) <;> rfl
theorem who_lt {man : Str} {ws : List Int} {es : List Ent} {ms : List Int} {j : Nat} (h : whoN man ws es ms = some j) : j < es.length := by
  unfold whoN at h
  split at h
  · exact fit_lt j (List.mem_of_mem_head? h)
  · rcases lawRes_cases (beatA_ok man ws es) (fit_nd es ms) with ⟨_, r⟩ | ⟨n, hw, r⟩ | ⟨_, _, r⟩
    · rw [r] at h; cases h
    · rw [r] at h
      obtain rfl := Option.some.inj h
      exact fit_lt _ hw.1
    · rw [r] at h; cases h
theorem heard_at {man : Str} {ws : List Int} {es : List Ent} {ms : List Int} {j : Nat} {e : Ent} (h : whoN man ws es ms = some j) (he : es[j]? = some e) : heard man ws es ms = some e.2 := by
  unfold heard
  rw [h]
  show (es[j]?).map (·.2) = _
  rw [he]
  rfl
theorem heard_non {man : Str} {ws : List Int} {es : List Ent} {ms : List Int} (h : whoN man ws es ms = none) : heard man ws es ms = none := by
  unfold heard
  rw [h]
theorem heard_mem {man : Str} {ws : List Int} {es : List Ent} {ms : List Int} {z : Str} (h : heard man ws es ms = some z) : z ∈ es.map (·.2) := by
  unfold heard at h
  split at h
  · rename_i j _
    obtain ⟨e, he, rfl⟩ := Option.map_eq_some_iff.mp h
    exact List.mem_map_of_mem (List.mem_of_getElem? he)
  · cases h
theorem heardAll_mem {man : Str} {ws : List Int} {es : List Ent} {cells : List (List Int)} {z : Str} (h : some z ∈ heardAll man ws es cells) : z ∈ es.map (·.2) := by
  obtain ⟨c, _, e⟩ := List.mem_map.mp h
  exact heard_mem e
theorem heardAll_len (man : Str) (ws : List Int) (es : List Ent) (cells : List (List Int)) : (heardAll man ws es cells).length = cells.length := by unfold heardAll; rw [List.length_map]
theorem heardAll_at {man : Str} {ws : List Int} {es : List Ent} {cells : List (List Int)} {i : Nat} {c : List Int} (h : cells[i]? = some c) : (heardAll man ws es cells)[i]? = some (heard man ws es c) := by
  unfold heardAll
  rw [List.getElem?_map, h]
  rfl
/-- forms out of few words -/
theorem forms_few {n : Nat} {fs : List (Option Str)} {zs : List Str} (len : fs.length = n) (few : n ≤ 24) (ok : ∀ z ∈ zs, WordOk z) (le : zs.length ≤ 12) (all : ∀ z, some z ∈ fs → z ∈ zs) : FormsOk n fs :=
  ⟨len, few, fun z hz => ok z (all z hz), fun us rise => Nat.le_trans (List.Nodup.length_le_of_subset rise.nd fun x hx => all x ((rise.all x).mp hx)) le⟩
theorem words_ok {es : List Ent} (h : ∀ e ∈ es, EntOk e) : ∀ z ∈ es.map (·.2), WordOk z := fun z hz => by
  obtain ⟨e, he, rfl⟩ := List.mem_map.mp hz
  exact (h e he).w
/-- told forms that are due, number by number below i -/
def fits1 (fs due : List (Option Str)) (j : Nat) : Bool := decide (fs.getD j none = none) || decide (fs.getD j none = due.getD j none)
def agree (fs due : List (Option Str)) (i : Nat) : Bool := (List.range i).all (fits1 fs due)
theorem agree_next (fs due : List (Option Str)) (i : Nat) : agree fs due (i + 1) = (agree fs due i && fits1 fs due i) := by
  unfold agree
  rw [List.range_succ, List.all_append]
  simp
theorem agree_no {fs due : List (Option Str)} {i n : Nat} (h : fits1 fs due i = false) (hi : i < n) : agree fs due n = false := by
  cases e : agree fs due n with
  | false => rfl
  | true =>
    have := List.all_eq_true.mp e i (List.mem_range.mpr hi)
    rw [h] at this
    cases this
theorem agree_all {fs due : List (Option Str)} {n : Nat} (h : ∀ j, j < n → fs.getD j none = none ∨ fs.getD j none = due.getD j none) : agree fs due n = true := by
  unfold agree
  refine List.all_eq_true.mpr fun j hj => ?_
  unfold fits1
  rcases h j (List.mem_range.mp hj) with e | e
  · rw [decide_eq_true e, Bool.true_or]
  · rw [decide_eq_true e, Bool.or_true]
theorem fits1_at {fs due : List (Option Str)} {i : Nat} {f d : Option Str} (h : fs[i]? = some f) (k : due[i]? = some d) : fits1 fs due i = (decide (f = none) || decide (f = d)) := by
  unfold fits1
  rw [List.getD_eq_getElem?_getD, List.getD_eq_getElem?_getD, h, k]
  rfl
theorem formV_eq (f g : Option Str) : decide (formV f = formV g) = decide (f = g) := by
  cases f with
  | none => cases g <;> rfl
  | some y =>
    cases g with
    | none => rfl
    | some z =>
      rw [decide_eq_decide]
      exact ⟨fun h => by rw [V.str.inj h], fun h => by rw [Option.some.inj h]⟩
theorem formV_non (f : Option Str) : decide (formV f = V.non) = decide (f = none) := formV_eq f none
theorem forms_scal (f g : Option Str) : scal (formV f) (formV g) = true := by cases f <;> cases g <;> rfl
theorem cutFrom (xs : List V) (k : Nat) : cutV xs (some (k : Int)) none = xs.drop k := by
  unfold cutV
  have e1 : HT.sIx xs.length xs.length none = xs.length := rfl
  rw [e1, HT.sIx_nat]
  by_cases h : k ≤ xs.length
  · rw [Nat.min_eq_left h, List.take_of_length_le (by rw [List.length_drop]; exact Nat.le_refl _)]
  · rw [Nat.min_eq_right (by omega), List.drop_of_length_le (Nat.le_refl _), List.drop_of_length_le (by omega)]
    simp
theorem made_table {CF C x dx fam p pc : Addr} {H : Hp} {many : Int} {ys : List V} {fs : List (Option Str)} {Q : VK} {E : XK} (nx : H x = Option.none) (ndx : H dx = Option.none) (hf : FamAt CF H fam many pc) (hc : H pc = some (.tup ys)) (hp : H p = some (.tup (fs.map formV))) (ok : FormsOk ys.length fs)
    (G : ∀ H', TabAt C H' x fam p → Same H H' → Q .non H') : spTab CF C [.ref x, .ref fam, .ref p] (upd (upd H dx (.own x)) x (.ins C dx [])) Q E := by
  have s3 : Same H (upd (upd H dx (.own x)) x (.ins C dx [])) := fun b o e => by rw [upd_ne (ne_of_none e nx), upd_ne (ne_of_none e ndx)]; exact e
  obtain ⟨df, hf⟩ := hf
  refine ⟨x, dx, fam, many, pc, ys, p, fs, rfl, upd_same, ⟨df, s3 _ _ hf⟩, (ne_of_none hf nx).symm, s3 _ _ hc, s3 _ _ hp, ok, fun H' ht kp => ?_⟩
  exact G H' ht fun b o e => kp b o (s3 b o e) (ne_of_none e nx)
/-- some of the told forms are opened -/
def Less (due gs : List (Option Str)) : Prop := ∀ (j : Nat) (x : Option Str), gs[j]? = some x → x = none ∨ due[j]? = some x
theorem Less.agree {due gs : List (Option Str)} (h : Less due gs) (n : Nat) (hn : n ≤ gs.length) : agree gs due n = true := agree_all fun j hj => by
  have g := List.getElem?_eq_getElem (show j < gs.length by omega)
  rcases h j _ g with e | e
  · left; rw [List.getD_eq_getElem?_getD, g, e]; rfl
  · right; rw [List.getD_eq_getElem?_getD, List.getD_eq_getElem?_getD, g, e]
theorem Less.self (due : List (Option Str)) : Less due due := fun _ _ h => .inr h
theorem Less.mem {due gs : List (Option Str)} (h : Less due gs) {z : Str} (hz : some z ∈ gs) : some z ∈ due := by
  obtain ⟨j, hj⟩ := List.mem_iff_getElem?.mp hz
  rcases h j _ hj with e | e
  · cases e
  · exact List.mem_of_getElem? e
theorem Less.snoc {due gs : List (Option Str)} (h : Less due gs) {x : Option Str} (hx : x = none ∨ due[gs.length]? = some x) : Less due (gs ++ [x]) := fun j y hj => by
  by_cases lt : j < gs.length
  · rw [List.getElem?_append_left lt] at hj
    exact h j y hj
  · rw [List.getElem?_append_right (by omega)] at hj
    have : j - gs.length = 0 := by
      have := (List.getElem?_eq_some_iff.mp hj).1
      simp at this
      omega
    rw [this] at hj
    obtain rfl := Option.some.inj hj
    have : j = gs.length := by omega
    rw [this]
    exact hx
/-- a word put at a cell -/
def putAt (gs : List (Option Str)) (k : Nat) (z : Str) : List (Option Str) := gs.take k ++ [some z] ++ gs.drop (k + 1)
theorem putAt_len {gs : List (Option Str)} {k : Nat} {z : Str} (h : k < gs.length) : (putAt gs k z).length = gs.length := by
  unfold putAt
  rw [List.length_append, List.length_append, List.length_take, List.length_drop, List.length_singleton]
  omega
theorem putAt_get {gs : List (Option Str)} {k : Nat} {z : Str} (h : k < gs.length) (j : Nat) : (putAt gs k z).getD j none = if j = k then some z else gs.getD j none := by
  have e : putAt gs k z = gs.set k (some z) := by
    unfold putAt
    rw [List.set_eq_take_append_cons_drop, if_pos h, List.append_assoc]
    rfl
  rw [e, List.getD_eq_getElem?_getD, List.getD_eq_getElem?_getD, List.getElem?_set]
  by_cases q : k = j
  · subst q
    rw [if_pos rfl, if_pos rfl, if_pos h]
    rfl
  · rw [if_neg q, if_neg fun x => q x.symm]
theorem putAt_mem {gs : List (Option Str)} {k : Nat} {z y : Str} (h : some y ∈ putAt gs k z) : y = z ∨ some y ∈ gs := by
  unfold putAt at h
  rcases List.mem_append.mp h with h | h
  · rcases List.mem_append.mp h with h | h
    · exact .inr (List.mem_of_mem_take h)
    · exact .inl (Option.some.inj (List.mem_singleton.mp h))
  · exact .inr (List.mem_of_mem_drop h)
theorem putAt_agree {due gs : List (Option Str)} {k : Nat} {z : Str} {d : Option Str} (h : Less due gs) (lt : k < gs.length) (hd : due[k]? = some d) : agree (putAt gs k z) due gs.length = decide (d = some z) := by
  have at_ : fits1 (putAt gs k z) due k = decide (d = some z) := by
    unfold fits1
    rw [putAt_get lt, if_pos rfl, List.getD_eq_getElem?_getD, hd]
    show (decide (some z = none) || decide (some z = d)) = _
    by_cases q : d = some z
    · simp [q]
    · have q' : ¬ some z = d := fun e => q e.symm
      simp [q, q']
  by_cases q : d = some z
  · rw [decide_eq_true q]
    refine agree_all fun j hj => ?_
    rw [putAt_get lt]
    by_cases e : j = k
    · rw [if_pos e, e, List.getD_eq_getElem?_getD, hd, q]
      exact .inr rfl
    · rw [if_neg e]
      have g := List.getElem?_eq_getElem hj
      rcases h j _ g with r | r
      · left; rw [List.getD_eq_getElem?_getD, g, r]; rfl
      · right; rw [List.getD_eq_getElem?_getD, List.getD_eq_getElem?_getD, g, r]
  · rw [decide_eq_false q] at at_ ⊢
    exact agree_no at_ lt
theorem open_less (due : List (Option Str)) (n : Nat) : Less due (List.replicate n none) := fun j x h => .inl (by
  rw [List.getElem?_replicate] at h
  split at h
  · exact (Option.some.inj h).symm
  · cases h)
theorem open_forms (n : Nat) : (List.replicate n (none : Option Str)).map formV = List.replicate n .non := by rw [List.map_replicate]; rfl
theorem part_lo {xs : List V} {k : Nat} (h : k < xs.length) : ¬ (HT.sIx xs.length 0 none = 0 ∧ HT.sIx xs.length xs.length (some (k : Int)) = xs.length) := fun w => by
  have := w.2
  rw [HT.sIx_nat] at this
  omega
theorem part_hi {xs : List V} {k : Nat} (h : k < xs.length) : ¬ (HT.sIx xs.length 0 (some ((k : Int) + 1)) = 0 ∧ HT.sIx xs.length xs.length none = xs.length) := fun w => by
  have := w.1
  rw [show ((k : Int) + 1) = ((k + 1 : Nat) : Int) by omega, HT.sIx_nat] at this
  omega
end Xci

namespace Xci
open PySem PySem.Spec PyProof.Rows L2 NdefX
/-! own exceptions whose __init__ says super().__init__(a text), and then fields -/
/-- what the written part says of such a class C: F is its __init__, made at fI; cc is the cell that holds C -/
structure XCls (P : Program) (K : PySem.W.Frag) (mg : Str → Option Value) (C fI cc : Addr) (F : NF) : Prop where
  ox : OexC K C
  lk : ∃ oc od osl kV doc pm an ct, K.lookup fI = some ⟨oc, od, .func (PySem.W.fnX F.name F.qual F.params F.body F.scope F.cl .none kV doc pm an (.ref F.c) ct), osl⟩
  cl : F.cl = [(("__class__" : Str), cc)]
  cd : PySem.W.codeIn K (.ref F.c) F.qual = true
  co : ∃ a b c vs file tf, K.lookup F.c = some ⟨a, b, .fields vs, c⟩ ∧ vs[2]? = some (.str file tf) ∧ ((P.main.file : Str) == file) = true
  ce : ∃ a b c, K.lookup cc = some ⟨a, b, .cell (some (.ref C)), c⟩
  mro : PySem.W.mroIn K C (.ref C) = some true
  sup : PySem.W.ks_superIn K C C "__init__" = some (some (.builtin "ValueError.__init__"))
  ve : PySem.W.subIn K (.ref C) (.type "ValueError") = some true
  op : PySem.W.nsIn K cStatics "thirdparty.any" = some none
  msu : mg "super" = none
  top : (P.main.scope.names.lookup ("super" : Str)).isSome = false
/-- what its text says: the names of the def -/
structure XTxt (F : NF) : Prop where
  su : F.scope.names.lookup ("super" : Str) = some .globalImplicit
  cl : F.scope.names.lookup ("__class__" : Str) = some .free
  se : F.scope.names.lookup ("self" : Str) = some .local
  kind : F.scope.kind = .function
  fst : ∃ ar, (F.params.posonlyargs ++ F.params.args).head? = some ar ∧ ar.arg = ("self" : Str)
theorem clsIn_of_ox {K : PySem.W.Frag} {C : Addr} (T : OexC K C) : ∃ cd, PySem.W.clsIn K C = some cd := by
  obtain ⟨nm, q, N, bs, bm, sn, sub, ab, col, dd, k0, k1, k2, k3, k5, hC, _⟩ := T.cls
  unfold PySem.W.clsIn
  rw [hC]
  exact ⟨_, rfl⟩
section
variable {CX : CXT} {P : Program} {w : World} {K : PySem.W.Frag} {mg : Str → Option Value} {base : Heap} {N : List Str} {F : NF} {fI C cc a : Addr} {A : Around} {outer : List Env} {s₀ : Shared} {H₀ : Hp} {E : XK}
variable {pins : List (Addr × Obj)} {σ : L2.St} {H : Hp} {s : Shared} {EE : Value → Shared → Prop}
/-- the built-in __init__, bound to the exception that is being made, called -/
theorem bound_init {X : Cx} {u : Addr} {ws : List Value} {A' : Around} {Q : Value → Shared → Prop} (T : OexC X.K C) (I : Inv X pins σ H s) (ea : H a = some (exo a C none)) (hl : ws.length ≤ sizeLine)
    (hu : s.heap.get? u = some (PySem.W.kxs_mw "ValueError.__init__" a)) (q : ∀ s', Inv X pins σ H s' → Q .none s') : wpAny (model X.prog X.w) A' (call (.ref u) ws) Q EE s := by
  obtain ⟨nm, qn, nsp, bs, bm, sn, sub, ab, col, dd, k0, k1, k2, k3, k5, hC, hbm⟩ := T.cls
  obtain ⟨t1, ho⟩ := exo_at I.hok ea
  have hCs := I.kIn _ _ hC
  obtain ⟨hp, g, d, t, os⟩ := s
  refine wpAny_call (codeAny_of_tree ?_)
  show wpAny _ A'.in1 (callAny (.ref u) ⟨ws, []⟩) _ _ _
  simp only [callAny]
  refine wpAny_bind (wpAny_load hu ?_)
  simp only [PySem.W.kxs_mw, show (Value.type "method-wrapper" == Value.type "method" || Value.type "method-wrapper" == Value.type "builtin_function_or_method" || Value.type "method-wrapper" == Value.type "method-wrapper") = true by decide, if_true]
  refine PySem.W.KFB.if_so (by decide) (wpAny_bind (PySem.W.check_bound_init F.excBase_ValueError.toExcCallFacts hCs ho rfl (wpAny_bind (wpAny_pure (wpAny_pure ?_)))))
  refine ⟨plainId_quiet F.excBase_ValueError.init.plain _, codeAny_builtin F.excBase_ValueError.initEntry ?_⟩
  refine PySem.W.exc_init_tree (cls := .ref C) (t0 := t1) (dv := none) (c2 := .none) (c3 := .none) (b4 := .bool false) ho hl fun h' k hx _ => ?_
  have J := I.write (t' := t) (x := a) (e := a) (o := exo a C none) (by rw [ea]; exact True.intro) (.inl rfl) k ⟨_, hx⟩ (exo_ok hx)
  have eu : upd H a (exo a C none) = H := funext fun b => by
    by_cases hb : b = a
    · subst hb; exact upd_same.trans ea.symm
    · exact upd_ne hb
  rw [eu] at J
  exact q _ J
/-- super().__init__(a text), the first statement of such a def: nothing of it is told -/
theorem super_step {p0 p1 p2 p3 p4 : Pos} {txt : Str} {j : Nat} {pc : Pos} {pl : Sem Bool} {Q : Flow → Shared → Prop} (XC : XCls P K mg C fI cc F) (XT : XTxt F)
    (I : Inv (ncx CX P w K mg base N F fI A outer s₀ H₀ E) pins σ H s) (h0 : N[0]? = some ("self" : Str)) (hσ : σ[0]? = some (some (.ref a))) (ea : H a = some (exo a C none))
    (q : ∀ s', Inv (ncx CX P w K mg base N F fI A outer s₀ H₀ E) pins σ H s' → Q .next s')
    (he : eval (.Call (.Attribute (.Call (.Name "super" p0) [] [] p1) "__init__" p2) [.Constant (.str txt) j pc] [] p3) (envF F fI s₀.heap.objs.size) = (do
      let o ← attributeBase (.Call (.Name "super" p0) [] [] p1) "__init__" (envF F fI s₀.heap.objs.size) (eval (.Call (.Name "super" p0) [] [] p1) (envF F fI s₀.heap.objs.size))
      standAt p2.atName
      let (g, l) ← holding [o] (getMethod o "__init__" pl)
      callWith p3 g l (backTo p3 (starEach [.Constant (.str txt) j pc] (envF F fI s₀.heap.objs.size))) [])) :
    _root_.PySem.wpAt (model P w) (A.deeper (envF F fI s₀.heap.objs.size)) (.func F.body (envF F fI s₀.heap.objs.size))
      (exec (.Expr (.Call (.Attribute (.Call (.Name "super" p0) [] [] p1) "__init__" p2) [.Constant (.str txt) j pc] [] p3) p4) (envF F fI s₀.heap.objs.size)) Q
      (ncx CX P w K mg base N F fI A outer s₀ H₀ E).xe s := by
  obtain ⟨m, hns, hl⟩ := I.loc
  obtain ⟨u, ru, hlook⟩ := hl 0 "self" (.ref a) h0 hσ (.inl XT.se)
  obtain rfl : u = Value.ref a := ru
  have hm : m "self" = some (.ref a) := by
    rcases hlook with ⟨_, z⟩ | ⟨z, _⟩
    · exact z
    · exfalso
      have e := XT.se
      rcases z with z | z
      · exact absurd (e.symm.trans z) (by decide)
      · exact absurd (e.symm.trans z) (by decide)
  obtain ⟨oc, od, osl, kV, doc, pm, an, ct, hf⟩ := XC.lk
  obtain ⟨c1, c2, vs, c3, file, tf, hco, hvs, hfile⟩ := XC.co
  obtain ⟨b1, b2, b3, hce⟩ := XC.ce
  obtain ⟨ar, har, har2⟩ := XT.fst
  obtain ⟨cdD, hcd⟩ := clsIn_of_ox XC.ox
  obtain ⟨t1, ho⟩ := exo_at I.hok ea
  have kin : K.In s.heap := I.kIn
  obtain ⟨oD, hD1, hD2⟩ : ∃ oD, s.heap.get? C = some oD ∧ oD.data = .cls cdD := by
    unfold PySem.W.clsIn at hcd
    split at hcd
    · next z =>
      cases hcd
      exact ⟨_, kin _ _ z, rfl⟩
    · cases hcd
  have isC : PySem.W.InstAt s.heap a ({ cls := .ref C, dict := none, data := .fields #[.ref t1, .none, .none, .none, .bool false, .none] } : Obj) C none := ⟨ho, rfl, rfl, trivial⟩
  obtain ⟨mb, blt1, blt2⟩ := I.mod.blt
  have glb : s.heap.Ns mainGlobals mg := I.mod.glob.keeps I.bk
  have bns : s.heap.Ns builtinsNs mb := blt1.keeps I.bk
  have bsu : mb "super" = some (.type "super") := (blt2 _ (by decide)).trans (by decide +kernel)
  have hi : interactive (envF F fI s₀.heap.objs.size) = false := by
    unfold interactive
    rw [show (envF F fI s₀.heap.objs.size).scope.kind = .function from XT.kind]
    rfl
  refine PySem.ks_wpAt_Expr_any (PySem.ks_wpAt_MethodCall ?_ he) hi
  refine PySem.ks_wpAt_super_base XT.su XT.cl rfl rfl (kin _ _ hf) rfl har rfl (kin _ _ hco) rfl hvs hfile XC.top ?_
  refine PySem.W.ks_loadName_global XT.kind XT.su (Calls.loadGlobal_builtin glb XC.msu bns bsu ⟨rfl, ?_⟩)
  refine wpAny_loadName_free (c := cc) XT.kind XT.cl (by show List.lookup _ F.cl = _; rw [XC.cl]; rfl) ⟨_, kin _ _ hce, rfl⟩ ?_
  refine wpAny_loadName_local XT.kind (by rw [har2]; exact XT.se) hns (by rw [har2]; exact hm) ?_
  obtain ⟨hp, g, d, t, os⟩ := s
  refine PySem.ks_wpAny_isType_cls hD1 hD2 ⟨rfl, ?_⟩
  refine PySem.ks_wpAny_call_super hD1 hD2 ho rfl (fun c e => ?_) (PySem.W.looks_mroIn kin XC.mro) (fun h' hso k => ?_)
  · cases e
  have I1 : Inv (ncx CX P w K mg base N F fI A outer s₀ H₀ E) pins σ H ⟨h', g, d, t, os⟩ := I.kept (t' := t) k
  have kin1 : K.In h' := kin.keeps k
  have hsup := XC.sup
  unfold PySem.W.ks_superIn at hsup
  rw [hcd] at hsup
  have isI : PySem.W.Looks (model P w) h' (isInstance (.ref a) (.type "ValueError")) true :=
    (PySem.W.InstAt.type (od := none) (h := h') ⟨k _ _ ho, rfl, rfl, trivial⟩).andThen (PySem.W.looks_subIn kin1 XC.ve)
  refine PySem.W.kxs_getMethod PySem.W.kxs_ValueError hso (PySem.W.looks_opaque kin1 XC.op) (l₀ := cdD.mro) ?_ rfl kin1 hsup isI (PySem.W.ks_ne kin isC hcd) (by decide) ?_
  · exact fun A' Q' E' s' z y => wpAny_bind (PySem.W.looks_clsIn kin1 hcd A' _ E' s' z (wpAny_pure y))
  have k2 : ∀ b o, h'.get? b = some o → (h'.push (PySem.W.kxs_mw "ValueError.__init__" a)).get? b = some o := fun b o z => Heap.get?_push_of_some _ z
  have I2 : Inv (ncx CX P w K mg base N F fI A outer s₀ H₀ E) pins σ H ⟨h'.push (PySem.W.kxs_mw "ValueError.__init__" a), g, d, t + 1, os⟩ := I1.kept (t' := t + 1) k2
  have hmw : (h'.push (PySem.W.kxs_mw "ValueError.__init__" a)).get? h'.objs.size = some (PySem.W.kxs_mw "ValueError.__init__" a) := Heap.get?_push_at rfl rfl
  show wpAny _ _ (callWith p3 (.ref h'.objs.size) [] (backTo p3 (starEach [.Constant (.str txt) j pc] _)) []) _ _ _
  have I3 : Inv (ncx CX P w K mg base N F fI A outer s₀ H₀ E) ((h'.objs.size, PySem.W.kxs_mw "ValueError.__init__" a) :: pins) σ H ⟨h'.push (PySem.W.kxs_mw "ValueError.__init__" a), g, d, t + 1, os⟩ := I2.pins_of fun p hp => by
    rcases List.mem_cons.mp hp with e | hp
    · subst e
      refine ⟨hmw, I1.hok.fresh (Nat.le_refl _), fun z => ?_, I1.nofs (Nat.le_refl _), fun v z => by cases z⟩
      have := I1.lt
      rw [← z] at this
      exact absurd this (Nat.lt_irrefl _)
    · exact I2.pin p (List.mem_append_right _ hp)
  refine PySem.W.kxs_callWith (i := "ValueError.__init__") (x := a) rfl (Calls.evalArgs_plain (thn ((pa_cons pe_str pa_nil).run p3 _ _ σ H (fun vs H1 => H1 = H ∧ vs.length = 1) I3 ⟨rfl, rfl⟩) fun us s1 ⟨vs', H1, J, r1, e1, e2⟩ => ?_))
  subst e1
  have hm1 := J.pin (h'.objs.size, PySem.W.kxs_mw "ValueError.__init__" a) (List.mem_append_right _ (List.mem_cons_self ..))
  refine ⟨hm1.1, ?_⟩
  have J' : Inv (ncx CX P w K mg base N F fI A outer s₀ H₀ E) pins σ H1 s1 := J.pins_of fun p hp => J.pin p (List.mem_append_right _ (List.mem_cons_of_mem _ hp))
  refine bound_init XC.ox J' ea ?_ hm1.1 q
  have := r1.length
  show ([] ++ us).length ≤ sizeLine
  rw [List.nil_append, ← this, e2]
  decide
/-- such an __init__ by what stands behind its first statement -/
theorem init_fn {ps : List Str} {k : Nat} {sp : Sp} {p0 p1 p2 p3 p4 : Pos} {txt : Str} {j : Nat} {pc : Pos} {pl : Addr → Sem Bool} {rest : List Stmt} (XC : XCls P K mg C fI cc F) (XT : XTxt F) (S : NScope N ps ["__class__"] F.scope) (h0 : N[0]? = some ("self" : Str))
    (hb : F.body = .Expr (.Call (.Attribute (.Call (.Name "super" p0) [] [] p1) "__init__" p2) [.Constant (.str txt) j pc] [] p3) p4 :: rest)
    (hbind : ∀ (kV doc pm ct : Value) (an : Option Addr) (us : List Value), us.length = ps.length → bindArgs (PySem.W.fnX F.name F.qual F.params F.body F.scope F.cl .none kV doc pm an (.ref F.c) ct) ⟨us, []⟩ = pure (ps.zip us))
    (he : ∀ L : Addr, eval (.Call (.Attribute (.Call (.Name "super" p0) [] [] p1) "__init__" p2) [.Constant (.str txt) j pc] [] p3) (envF F fI L) = (do
      let o ← attributeBase (.Call (.Name "super" p0) [] [] p1) "__init__" (envF F fI L) (eval (.Call (.Name "super" p0) [] [] p1) (envF F fI L))
      standAt p2.atName
      let (g, l) ← holding [o] (getMethod o "__init__" (pl L))
      callWith p3 g l (backTo p3 (starEach [.Constant (.str txt) j pc] (envF F fI L))) []))
    (hsp : ∀ vs H Q E, sp vs H Q E → vs.length = ps.length ∧ ∃ a ws, vs = V.ref a :: ws ∧ H a = some (exo a C none))
    (hrest : ∀ (A : Around) (outer : List Env) (s : Shared) (H : Hp) (vs : List V) (Q : VK) (E : XK), Room k (A.deeper (envF F fI s.heap.objs.size)) → sp vs H Q E →
      ∃ t, PSs (ncx CX P w K mg base N F fI A outer s H E) rest t ∧ t { nx := fun _ H' => Q .non H', rt := Q } (startF N vs [none]) H) :
    ∃ fd, FnOk P w K mg base CX (k + 1) fI fd ps sp ∧ Binds K fd ps [] := by
  obtain ⟨oc, od, osl, kV, doc, pm, an, ct, hf⟩ := XC.lk
  obtain ⟨b1, b2, b3, hce⟩ := XC.ce
  refine ⟨_, ⟨fun vs H Q E q => (hsp vs H Q E q).1, fun A outer s H args us vs Q E hr e0 hbi r q => ?_⟩, .all (hbind kV doc pm ct an)⟩
  obtain ⟨hl, a, ws, ev, ea⟩ := hsp vs H Q E q
  have kb : ∀ b o, base.get? b = some o → s.heap.get? b = some o := fun b o z => (e0.bs b o z).1
  have kin : K.In s.heap := e0.mod.kin.keeps kb
  have hcc : List.lookup ("__class__" : Str) F.cl = some cc := by rw [XC.cl]; rfl
  have only : ∀ (y : Str) (c : Addr), List.lookup y F.cl = some c → y = "__class__" ∧ c = cc := fun y c z => by
    rw [XC.cl] at z
    by_cases e : y = "__class__"
    · subst e
      cases z
      exact ⟨rfl, rfl⟩
    · have e' : (y == ("__class__" : Str)) = false := by simpa using e
      simp [List.lookup, e'] at z
  have cells : CellsAt F.cl ["__class__"] [none] s.heap H := ⟨rfl, fun y c z => by
      obtain ⟨_, rfl⟩ := only y c z
      exact ⟨(e0.bs _ _ (e0.mod.kin _ _ hce)).2, _, _, kin _ _ hce, rfl⟩, fun x y c z1 z2 => by rw [(only x c z1).1, (only y c z2).1], fun i y z => by
      cases i with
      | zero =>
        cases z
        exact ⟨cc, hcc, fun v z => by cases z⟩
      | succ i => cases z⟩
  refine PySem.ks_codeAny_call_defAt (body := F.body) (binds := ps.zip us) hr.depth (kin _ _ hf) rfl (e0.mod.nolimit.keeps kb) (PySem.W.codeRec_of kin XC.cd) rfl hbi S.nocell (fun ⟨n, _⟩ hy => S.par n (List.of_mem_zip hy).1) (fun h₁ hns hk₁ => ?_) S.co S.gen S.kind
  have I : Inv (ncx CX P w K mg base N F fI A outer s H E) [] (startF N vs [none]) H { s with heap := h₁, toks := s.toks + (ps.zip us).length } := inv_startN S hr.hd e0 hl r cells hns hk₁
  have hst : (startF N vs [none])[0]? = some (some (.ref a)) := by rw [ev]; rfl
  obtain ⟨t, ht, hq⟩ := hrest A outer s H vs Q E (hr.deeper _) q
  have fin : ∀ {s' : Shared} {σ' : L2.St} {H' : Hp} {v : V} {u : Value}, Inv (ncx CX P w K mg base N F fI A outer s H E) [] σ' H' s' → L2.RelV v u → Q v H' → CE outer P w H s Q u s' :=
    fun {s' σ' H' v u} J rv q => ⟨v, H', J.os, J.bare, J.base, J.hok, rv, q⟩
  show PySem.wpAt _ _ (.func F.body (envF F fI s.heap.objs.size)) (execs F.body (envF F fI s.heap.objs.size)) _ _ _
  rw [show execs F.body (envF F fI s.heap.objs.size) = execs (_ :: rest) (envF F fI s.heap.objs.size) from congrArg (execs · _) hb]
  refine PySem.ks_wpAt_execs_cons (super_step XC XT I h0 hst ea (fun s' J => ?_) (he _))
  show PySem.wpAt _ _ _ (execs rest _) _ _ _
  refine wpAt_of_wpAny (wpAny_mono (ht.run [] _ _ _ _ J hq) (fun fl s'' hs => ?_) fun e s'' hs => hs)
  cases fl with
  | ret u =>
    obtain ⟨v, σ', H', J', rv, q'⟩ := hs
    exact fin J' rv q'
  | next =>
    obtain ⟨σ', H', J', q'⟩ := hs
    exact fin (v := V.non) (u := Value.none) J' rfl q'
  | brk =>
    obtain ⟨_, _, _, q'⟩ := hs
    exact False.elim q'
  | cont =>
    obtain ⟨_, _, _, q'⟩ := hs
    exact False.elim q'
end
/-! ### the promises of the two kinds of such an __init__, and of more fields -/
def spX0 (C : Addr) : Sp := fun vs H Q _ => ∃ a, vs = [.ref a] ∧ H a = some (exo a C none) ∧ Q .non H
def spX1 (C : Addr) (f : Str) : Sp := fun vs H Q _ => ∃ a v, vs = [.ref a, v] ∧ H a = some (exo a C none) ∧ ∀ dx, H dx = none → dx ≠ a → Q .non (upd (upd H dx (exd dx [(f, v)])) a (exo a C (some dx)))
def spX2 (C : Addr) (f g : Str) : Sp := fun vs H Q _ => ∃ a v u, vs = [.ref a, v, u] ∧ H a = some (exo a C none) ∧
  ∀ dx, H dx = none → dx ≠ a → Q .non (upd (upd (upd H dx (exd dx [(f, v)])) a (exo a C (some dx))) dx (exd dx [(g, u), (f, v)]))
/-! ### C() of such a class without fields -/
section
variable {X : Cx} {pins : List (Addr × Obj)} {σ : L2.St} {H : Hp} {Q : XK} {e C : Addr}
/-- the exception is let go -/
theorem mk_bare {hp hp2 h2 : Heap} {g1 g2 : Array GenState} {d1 d2 : Drawn} {t1 t2 : Nat} {os1 os2 : OsState} (T : Raises X (.ref C)) (I : Inv X pins σ H ⟨hp, g1, d1, t1, os1⟩) (he : hp.objs.size ≤ e)
    (kk : ∀ b o, hp.get? b = some o → hp2.get? b = some o) (un : Un (frs X.stack) [] (upd H e (exo e C none)) (upd H e (exo e C none)) hp2 h2) (hok : HOk X.prog X.w (upd H e (exo e C none)) h2) (ho : os2 = os1) (hb : AllBare g2)
    (q : Q (.ref C) none H) : MkP X pins σ Q (.ref e) ⟨h2, g2, d2, t2, os2⟩ := by
  obtain ⟨t0, hoe⟩ := exo_at hok upd_same
  have hn : H e = none := I.hok.fresh he
  obtain ⟨G, gin, gout⟩ := restrict h2 fun b => decide (b ≠ e)
  have at_ : ∀ b, b ≠ e → G.get? b = h2.get? b := fun b z => gin b (decide_eq_true z)
  have off : G.get? e = none := gout e (by simp)
  have old : ∀ {b : Addr} {o : Obj}, hp.get? b = some o → b ≠ e := fun {b o} z => Nat.ne_of_lt (Nat.lt_of_lt_of_le (Heap.lt_size z) he)
  have trk : ∀ {b : Addr} {o : HO}, H b = some o → b ≠ e := fun {b o} z y => by rw [y, hn] at z; cases z
  have free_ : ∀ {b : Addr} {o : Obj}, hp.get? b = some o → H b = none → upd H e (exo e C none) b = none := fun {b o} z n => (upd_ne (old z)).trans n
  have U : Un (frs X.stack) [] H H hp G := {
    keep := fun b o z n h1 h2 => (at_ b (old z)).trans (un.keep b o (kk b o z) (free_ z n) h1 h2)
    slot := fun b o z n h1 h2 => by
      obtain ⟨sl, y⟩ := un.slot b o (kk b o z) (free_ z n) h1 h2
      exact ⟨sl, (at_ b (old z)).trans y⟩
    free := fun b o z n h1 => n
    there := fun b o z h1 => by
      obtain ⟨o', y⟩ := un.there b o (kk b o z) h1
      exact ⟨o', (at_ b (old z)).trans y⟩
    tups := fun b xs z => z
    frzs := fun b o v z => z
    tbls := fun b ps z => ⟨#[], by rw [z]; simp⟩ }
  have hok' : HOk X.prog X.w H G := fun b o z => by
    have hbe := trk z
    refine (hok b o ((upd_ne hbe).trans z)).stay (fun c v hc y => ?_) (fun c hc => ?_) (fun c xs hc => ?_)
    · have hce : c ≠ e := by
        rcases hc with hc | hc
        · rw [hc]; exact hbe
        · exact at_ne upd_same hc exo_own
      exact (at_ c hce).trans y
    · rwa [upd_ne (at_ne upd_same hc exo_own)] at hc
    · rwa [upd_ne (at_ne upd_same hc exo_tup)] at hc
  have J : Inv X pins σ H ⟨G, g2, d2, t2, os2⟩ := I.call' (ch := []) ho U hok' hb (fun b z => absurd z (by simp))
  refine ⟨e, _, _, ⟨G, g2, d2, t2, os2⟩, _, .ref C, none, rfl, J, fun b o z => ?_, off, hoe, ⟨rfl, rfl⟩, rfl, rfl, hn, rfl, hb, T, q⟩
  by_cases hbe : b = e
  · rw [hbe, off] at z; cases z
  · exact (at_ b hbe).symm.trans z
theorem pmk_x0 {CX : CXT} {x : Str} {fI : Addr} {k : Nat} {fd : FuncData} {p pos : Pos} (T : OexC X.K C) (iC : PySem.W.findIn X.K (.ref C) "__init__" = some (some (.ref fI))) (tI : PySem.W.typeIn X.K (.ref fI) = some (.type "function"))
    (F1 : FnOk X.prog X.w X.K X.mg X.base CX k fI fd ["self"] (spX0 C)) (hr : Room (k + 1) X.A) (hb : Binds X.K fd ["self"] []) (hx : Passes CX X (fun _ _ _ => False)) (hg : Gl X x) (hm : X.mg x = some (.ref C))
    (hdb : (x == ("__debug__" : Str)) = false := by decide) : PMk X (.Call (.Name x p) [] [] pos) (fun _ H Q => Q (.ref C) none H) := by
  intro pins s σ H Q I h
  obtain ⟨nm, q, N, bs, bm, sn, sub, ab, col, dd, k0, k1, k2, k3, k5, hC, hbm⟩ := T.cls
  refine wpAny_Call_Name_kw (ld_glob I hg hm ?_ hdb)
  refine PySem.W.callWith_K0 I.kIn T.kC ?_
  obtain ⟨hp, g, dr, tk, os⟩ := s
  have hsz : hp.objs.size ≤ hp.objs.size + 1 := Nat.le_succ _
  have kk : ∀ b o, hp.get? b = some o → ((hp.push (PySem.W.kdv_tup [])).push (PySem.HandSPX.excO C hp.objs.size)).get? b = some o := fun b o z => Heap.get?_push_of_some _ (Heap.get?_push_of_some _ z)
  have hget : ((hp.push (PySem.W.kdv_tup [])).push (PySem.HandSPX.excO C hp.objs.size)).get? (hp.objs.size + 1) = some (PySem.HandSPX.excO C hp.objs.size) := by heap_get
  have I2 := I.laid (t' := tk) (a := hp.objs.size + 1) (o := exo (hp.objs.size + 1) C none) kk hsz (exo_ok hget)
  refine wpAny_call (PySem.HandSPX.call_own F.excBase_ValueError (fun Y => PySem.HandSPX.refsVE_contains Y bm hbm) (I.kIn _ _ hC) (PySem.W.looks_findIn I.kIn iC) (fun self => PySem.W.bind_fn I.kIn self tI) (Nat.zero_le _)
    (codeAny_mono (F1.run _ X.stack _ _ ⟨[Value.ref (hp.objs.size + 1)], []⟩ [Value.ref (hp.objs.size + 1)] [V.ref (hp.objs.size + 1)] (fun v H2 => v = .non ∧ H2 = upd H (hp.objs.size + 1) (exo (hp.objs.size + 1) C none)) (fun _ _ _ => False)
      (hr.make C [] []) (I2.env0.make C [] []) (hb _ [Value.ref (hp.objs.size + 1)] I2.kIn rfl) (.cons rfl .nil) ⟨_, rfl, upd_same, rfl, rfl⟩) fun r s' hq' => ?_))
  cases r with
  | error er => exact hx pins σ _ _ er s' I2 hq'
  | ok fl =>
    cases fl with
    | ret u =>
      obtain ⟨v, H2, os2, bare2, un2, hok2, rv, ev, eH⟩ := hq'
      subst ev eH
      obtain ⟨h2, g2, d2, t2, os'⟩ := s'
      exact ⟨rv, mk_bare (raises_own T.exC T.tyC) I hsz kk un2 hok2 os2 bare2 h⟩
    | next => exact False.elim hq'
    | brk => exact False.elim hq'
    | cont => exact False.elim hq'
end
end Xci

namespace Xci
open PySem PySem.Spec PyProof.Rows L2
/-! data of any kind, dicts with texts or numbers for keys among them; none of its objects is one of those that are kept out -/
abbrev Out := Addr → Prop
/-- all but what is kept out stands as before -/
def FrO (N : Out) (H H' : Hp) : Prop := ∀ b o, H b = some o → ¬ N b → H' b = some o
theorem FrO.same {N : Out} {H H' : Hp} (s : Same H H') : FrO N H H' := fun b o e _ => s b o e
theorem FrO.trans {N : Out} {H H1 H2 : Hp} (f : FrO N H H1) (g : FrO N H1 H2) : FrO N H H2 := fun b o e n => g b o (f b o e n) n
theorem FrO.fr {a : Addr} {H H' : Hp} (f : Fr a H H') : FrO (· = a) H H' := fun b o e n => f b o e n
def keyD : Key → PyData
  | .inl i => .int i
  | .inr x => .str x
mutual
inductive Dt (a : Out) (H : Hp) : V → PyData → Prop
  | non : Dt a H .non .none
  | bl (b : Bool) : Dt a H (.bl b) (.bool b)
  | int (i : Int) : Dt a H (.int i) (.int i)
  | str (x : Str) : Dt a H (.str x) (.str x)
  | lst {p : Addr} {xs : List V} {ds : List PyData} : ¬ a p → H p = some (.lst xs) → DtAll a H xs ds → Dt a H (.ref p) (.list ds)
  | tup {p : Addr} {xs : List V} {ds : List PyData} : ¬ a p → H p = some (.tup xs) → DtAll a H xs ds → Dt a H (.ref p) (.tuple ds)
  | dic {p : Addr} {kvs : List (Key × V)} {ds : List PyData} : ¬ a p → H p = some (.dK kvs) → DtAll a H (kvs.map (·.2)) ds → Dt a H (.ref p) (.dict ((kvs.map fun q => keyD q.1).zip ds))
inductive DtAll (a : Out) (H : Hp) : List V → List PyData → Prop
  | nil : DtAll a H [] []
  | cons {v : V} {vs : List V} {d : PyData} {ds : List PyData} : Dt a H v d → DtAll a H vs ds → DtAll a H (v :: vs) (d :: ds)
end
mutual
theorem Dt.fr {a : Out} {H H' : Hp} (f : FrO a H H') : ∀ {v : V} {d : PyData}, Dt a H v d → Dt a H' v d
  | _, _, .non => .non
  | _, _, .bl b => .bl b
  | _, _, .int i => .int i
  | _, _, .str x => .str x
  | _, _, .lst n h r => .lst n (f _ _ h n) (DtAll.fr f r)
  | _, _, .tup n h r => .tup n (f _ _ h n) (DtAll.fr f r)
  | _, _, .dic n h r => .dic n (f _ _ h n) (DtAll.fr f r)
theorem DtAll.fr {a : Out} {H H' : Hp} (f : FrO a H H') : ∀ {vs : List V} {ds : List PyData}, DtAll a H vs ds → DtAll a H' vs ds
  | _, _, .nil => .nil
  | _, _, .cons r rs => .cons (Dt.fr f r) (DtAll.fr f rs)
end
mutual
theorem Dt.less {a b : Out} {H : Hp} (l : ∀ p, b p → a p) : ∀ {v : V} {d : PyData}, Dt a H v d → Dt b H v d
  | _, _, .non => .non
  | _, _, .bl x => .bl x
  | _, _, .int i => .int i
  | _, _, .str x => .str x
  | _, _, .lst n h r => .lst (fun z => n (l _ z)) h (DtAll.less l r)
  | _, _, .tup n h r => .tup (fun z => n (l _ z)) h (DtAll.less l r)
  | _, _, .dic n h r => .dic (fun z => n (l _ z)) h (DtAll.less l r)
theorem DtAll.less {a b : Out} {H : Hp} (l : ∀ p, b p → a p) : ∀ {vs : List V} {ds : List PyData}, DtAll a H vs ds → DtAll b H vs ds
  | _, _, .nil => .nil
  | _, _, .cons r rs => .cons (Dt.less l r) (DtAll.less l rs)
end
theorem DtAll.len {a : Out} {H : Hp} : ∀ {vs : List V} {ds : List PyData}, DtAll a H vs ds → vs.length = ds.length
  | _, _, .nil => rfl
  | _, _, .cons _ rs => congrArg (· + 1) (DtAll.len rs)
theorem DtAll.get {a : Out} {H : Hp} : ∀ {vs : List V} {ds : List PyData} {i : Nat} {v : V}, DtAll a H vs ds → vs[i]? = some v → ∃ d, ds[i]? = some d ∧ Dt a H v d
  | _, _, _, _, .nil, e => by simp at e
  | _, _, 0, _, .cons r _, e => by simp at e; subst e; exact ⟨_, rfl, r⟩
  | _, _, i + 1, _, .cons _ rs, e => by
    obtain ⟨d, h1, h2⟩ := DtAll.get rs (by simpa using e)
    exact ⟨d, by simpa using h1, h2⟩
theorem DtAll.append {a : Out} {H : Hp} : ∀ {vs us : List V} {ds es : List PyData}, DtAll a H vs ds → DtAll a H us es → DtAll a H (vs ++ us) (ds ++ es)
  | _, _, _, _, .nil, h => h
  | _, _, _, _, .cons r rs, h => .cons r (DtAll.append rs h)
theorem DtAll.cut {a : Out} {H : Hp} : ∀ {vs : List V} {ds : List PyData} (n : Nat), DtAll a H vs ds → DtAll a H (vs.take n) (ds.take n) ∧ DtAll a H (vs.drop n) (ds.drop n)
  | _, _, 0, h => ⟨by simp only [List.take_zero]; exact .nil, h⟩
  | _, _, n + 1, .nil => ⟨by simp only [List.take_nil]; exact .nil, by simp only [List.drop_nil]; exact .nil⟩
  | _, _, n + 1, .cons r rs => ⟨by simp only [List.take_succ_cons]; exact .cons r (DtAll.cut n rs).1, by simp only [List.drop_succ_cons]; exact (DtAll.cut n rs).2⟩
/-! ### what stands in memory -/
section
variable {X : Cx} {pins : List (Addr × Obj)} {σ : L2.St} {H : Hp} {s : Shared}
theorem tracked_not_sys (hS : ∃ o, X.base.get? sysModules = some o) (I : Inv X pins σ H s) {b : Addr} {o : HO} (h : H b = some o) : b ≠ sysModules := fun e => by
  obtain ⟨ob, q⟩ := hS
  have := (I.bs _ _ q).2
  rw [← e, h] at this
  cases this
theorem not_app {c : Addr} {as bs : List Addr} (h1 : c ∉ as) (h2 : c ∉ bs) : c ∉ as ++ bs := fun z => (List.mem_append.mp z).elim h1 h2
theorem keys_read {P : Program} {w : World} {h : Heap} : ∀ {kvs : List (Key × V)} {us : List (Key × Value)} {es : List DictEntry}, KV kvs us → PySem.Pairs (mixKind P w) es us →
    ReadsAll h (es.map (·.key)) (kvs.map fun q => keyD q.1) [] ∧ Vals (kvs.map (·.2)) (es.map (·.val))
  | _, _, _, .nil, .nil => ⟨.nil, .nil⟩
  | (k, v) :: _, (k', v') :: _, e :: _, .cons ⟨e1, e2⟩ r, .cons h1 h2 r' => by
    dsimp only at e1 e2 h1 h2
    subst e1
    obtain ⟨q1, q2⟩ := keys_read r r'
    refine ⟨ReadsAll.cons (as := []) ?_ q1, .cons (show L2.RelV v e.val by rw [h2]; exact e2) q2⟩
    have z : keyIs k e.key = true := h1
    cases k with
    | inl i =>
      obtain ⟨t, y⟩ : ∃ t, e.key = .int i t := by
        have z' : Value.isInt i e.key = true := z
        unfold Value.isInt at z'
        split at z' <;> simp_all
      show Reads h e.key (.int i) []
      rw [y]
      exact Reads.int i t
    | inr x =>
      obtain ⟨t, y⟩ : ∃ t, e.key = .str x t := by
        have z' : Value.isStrOf x e.key = true := z
        unfold Value.isStrOf at z'
        split at z' <;> simp_all
      show Reads h e.key (.str x) []
      rw [y]
      exact Reads.str x t
mutual
theorem Dt.reads (hS : ∃ o, X.base.get? sysModules = some o) (I : Inv X pins σ H s) {a : Out} : ∀ {v : V} {d : PyData} {u : Value}, Dt a H v d → L2.RelV v u → ∃ as, Reads s.heap u d as ∧ sysModules ∉ as
  | _, _, _, .non, r => by
    cases r
    exact ⟨[], Reads.none, by simp⟩
  | _, _, _, .bl b, r => by
    cases r
    exact ⟨[], Reads.bool b, by simp⟩
  | _, _, _, .int i, r => by
    obtain ⟨t, rfl⟩ := r
    exact ⟨[], Reads.int i t, by simp⟩
  | _, _, _, .str x, r => by
    obtain ⟨t, rfl⟩ := r
    exact ⟨[], Reads.str x t, by simp⟩
  | _, _, _, .lst (p := p) n h rs, r => by
    cases r
    obtain ⟨_, its, nn, rv, ho⟩ := I.hok _ _ h
    obtain ⟨as, hr, hn⟩ := DtAll.reads hS I rs rv
    exact ⟨_, Reads.list ho rfl rfl hr, fun z => (List.mem_cons.mp z).elim (fun z => tracked_not_sys hS I h z.symm) hn⟩
  | _, _, _, .tup n h rs, r => by
    cases r
    obtain ⟨_, its, rv, o, ho, hc, nn, hd⟩ := I.hok _ _ h
    obtain ⟨as, hr, hn⟩ := DtAll.reads hS I rs rv
    exact ⟨_, Reads.tuple ho hc hd hr, hn⟩
  | _, _, _, .dic (p := p) (kvs := kvs) (ds := ds) n h rs, r => by
    cases r
    obtain ⟨_, _, us, hkv, o, es, ep, ho, hx, hd, _, hp, _⟩ := I.hok _ _ h
    obtain ⟨q1, q2⟩ := keys_read (h := s.heap) hkv hp
    obtain ⟨as, hr, hn⟩ := DtAll.reads hS I rs q2
    have hl : (kvs.map fun q => keyD q.1).length = ds.length := by rw [← DtAll.len rs, List.length_map, List.length_map]
    refine ⟨_, Reads.dict ho hx.1 hd (by rw [List.map_fst_zip (by omega)]; exact q1) (by rw [List.map_snd_zip (by omega)]; exact hr), fun z => ?_⟩
    rcases List.mem_append.mp z with z | z
    · rcases List.mem_cons.mp z with z | z
      · exact tracked_not_sys hS I h z.symm
      · cases z
    · exact hn z
theorem DtAll.reads (hS : ∃ o, X.base.get? sysModules = some o) (I : Inv X pins σ H s) {a : Out} : ∀ {vs : List V} {ds : List PyData} {us : List Value}, DtAll a H vs ds → Vals vs us → ∃ as, ReadsAll s.heap us ds as ∧ sysModules ∉ as
  | _, _, _, .nil, .nil => ⟨[], .nil, by simp⟩
  | _, _, _, .cons h hs, .cons r rs => by
    obtain ⟨as, q1, n1⟩ := Dt.reads hS I h r
    obtain ⟨bs, q2, n2⟩ := DtAll.reads hS I hs rs
    exact ⟨_, .cons q1 q2, not_app n1 n2⟩
end
end
/-! ### repr -/
/-- short data: its text fits -/
structure Fine (n k : Nat) (d : PyData) : Prop where
  sh : d.showable = true
  lv : d.leavesShort 40 = true
  bk : d.bulk ≤ n
  dp : d.depth ≤ k
theorem Fine.fits {n k : Nat} {d : PyData} (f : Fine n k d) (h : n ≤ 390000) : d.shown.length ≤ sizeLine := by
  have e := PyData.shown_le_bulk 40 (by decide) d f.lv
  have h2 : 42 * d.bulk ≤ 42 * 390000 := Nat.mul_le_mul_left _ (Nat.le_trans f.bk h)
  rw [sizeLine_eq]
  omega
def rRep : List V → Hp → VK → Prop := fun xs H Q => ∃ (a : Out) (p : Addr) (d : PyData), xs = [.ref p] ∧ Dt a H (.ref p) d ∧ Fine 390000 60 d ∧ Q (.str d.shown) H
theorem call_rep {X : Cx} (hS : ∃ o, X.base.get? sysModules = some o) (hg : X.A.guards = some []) (hu : X.A.units + 64 < cLine) : CallR X (.builtin "repr") rRep := by
  intro pins s σ H xs us Q I rv h
  obtain ⟨a, p, d, rfl, hd, hf, q⟩ := h
  cases rv with
  | cons r rs =>
    cases rs
    cases r
    obtain ⟨as, hr, hn⟩ := Dt.reads hS I hd rfl
    have := hf.dp
    exact repr_of_reads' hr hf.sh (fun _ => hn) hg (by omega) (fun _ _ e => e) (fun h' u tk hk => ⟨.str d.shown, H, I.kept (t' := tk) hk, ⟨u, rfl⟩, q⟩) (hf.fits (Nat.le_refl _))
end Xci

namespace Xci
open PySem PySem.Spec PyProof.Rows L2
/-! C(..) whose __init__ may raise, told at the caller's slots -/
def tMakeS (C : Addr) (sp : Sp) (E : L2.St → XK) (t : TA) : TE := fun σ H Q => t σ H fun vs H1 => ∀ x dx, H1 x = none → H1 dx = none → dx ≠ x → sp (.ref x :: vs) (upd (upd H1 dx (.own x)) x (.ins C dx [])) (fun v H2 => v = .non ∧ Q (.ref x) H2) (E σ)
section
variable {X : Cx} {CX : CXT} {k : Nat} {f C : Addr} {fd : FuncData} {ps : List Str} {sp : Sp} {E : L2.St → XK} {x : Str} {p pos : Pos} {e : Expr} {es : List Expr} {t : TA}
theorem pe_makeS (M : L2.Mk X.K C f) (F : FnOk X.prog X.w X.K X.mg X.base CX k f fd ps sp) (hr : Room (k + 1) X.A) (hg : Gl X x) (hm : X.mg x = some (.ref C)) (hb : Binds X.K fd ps []) (hx : ∀ σ, PassesAt CX X σ (E σ)) (ha : PA X (e :: es) t)
    (hdb : (x == ("__debug__" : Str)) = false := by decide) (he : starEach (e :: es) X.env = (false, eval e X.env) :: starEach es X.env := by rfl) (hpl : (backTo pos (starEach es X.env)).any (·.1) = false := by rfl) :
    PE X (.Call (.Name x p) (e :: es) [] pos) (tMakeS C sp E t) := by
  refine ⟨fun pins s σ H Q I h => wpAny_Call_Name_kw (ld_glob I hg hm (PySem.W.callWith_K (h₀ := X.base) I.ok.mod.kin M.kp (thn (ha.run pos pins s σ H _ I h) fun us s1 ⟨vs, H1, I1, r, q⟩ => ⟨I1.kIn, ?_⟩) he hpl) hdb)⟩
  show wpAny _ _ (call (.ref C) us) _ _ _
  have new1 : H1 (s1.heap.objs.size + 1) = none := I1.hok.fresh (Nat.le_succ _)
  have new0 : H1 s1.heap.objs.size = none := I1.hok.fresh (Nat.le_refl _)
  have told := q _ _ new1 new0 (Nat.ne_of_lt (Nat.lt_succ_self _))
  have J := Inv.made (C := C) I1
  have rv : Vals (V.ref (s1.heap.objs.size + 1) :: vs) (Value.ref (s1.heap.objs.size + 1) :: us) := .cons rfl r
  have ar : (Value.ref (s1.heap.objs.size + 1) :: us).length = ps.length := by rw [← rv.length]; exact F.len _ _ _ _ told
  have bnd := hb _ (Value.ref (s1.heap.objs.size + 1) :: us) J.kIn (by rw [List.append_nil]; exact ar)
  rw [List.append_nil] at bnd
  refine wpAny_call (make_map (f := f) I1.kIn M.makes M.init (beq_iff_eq.mp M.fn) (codeAny_mono (F.run _ X.stack _ _ ⟨Value.ref (s1.heap.objs.size + 1) :: us, []⟩ _ _ _ (E σ) (hr.make C us []) (J.env0.make C us []) bnd rv told) fun r' s' z => ?_))
  match r', z with
  | .error er, z => exact hx σ pins _ _ er s' J z
  | .ok (.ret u), z =>
    obtain ⟨v, H', J', rv', ev, y⟩ := J.after z
    subst ev
    exact ⟨rv', V.ref (s1.heap.objs.size + 1), H', J', rfl, y⟩
  | .ok .next, z => exact False.elim z
  | .ok .brk, z => exact False.elim z
  | .ok .cont, z => exact False.elim z
end
/-! an error class of the program, as those who raise it see it -/
structure ErrC (P : Program) (w : World) (K : PySem.W.Frag) (mg : Str → Option Value) (base : Heap) (nm : Str) (C : Addr) (ps : List Str) (sp : Sp) : Prop where
  ex : ∃ (fI : Addr) (fd : FuncData), PySem.W.findIn K (.ref C) "__init__" = some (some (.ref fI)) ∧ PySem.W.typeIn K (.ref fI) = some (.type "function") ∧ FnOk P w K mg base CX0 1 fI fd ps sp ∧ Binds K fd ps []
  ox : OexC K C
  at_ : mg nm = some (.ref C)
section
variable {X : Cx} {C : Addr} {nm f g : Str} {e : Expr} {es : List Expr} {ta : TA} {p pos : Pos}
theorem pmk_e0 (H : ErrC X.prog X.w X.K X.mg X.base nm C ["self"] (spX0 C)) (hr : Room 2 X.A) (hg : Gl X nm) (hdb : (nm == ("__debug__" : Str)) = false := by decide) : PMk X (.Call (.Name nm p) [] [] pos) (fun _ H Q => Q (.ref C) none H) := by
  obtain ⟨fI, fd, h1, h2, F1, hb⟩ := H.ex
  exact pmk_x0 H.ox h1 h2 F1 hr hb pass0 hg H.at_ hdb
/-- C(e, ..): an error with fields -/
theorem pmk_en {ps : List Str} {sp : Sp} (H : ErrC X.prog X.w X.K X.mg X.base nm C ps sp) (hr : Room 2 X.A) (hg : Gl X nm) (ha : PA X (e :: es) ta) (hdb : (nm == ("__debug__" : Str)) = false := by decide)
    (hs : starEach (e :: es) X.env = (false, eval e X.env) :: starEach es X.env := by rfl) (hpl : (backTo pos (starEach es X.env)).any (·.1) = false := by rfl) :
    PMk X (.Call (.Name nm p) (e :: es) [] pos) (tMkO C sp [] ta) := by
  obtain ⟨fI, fd, h1, h2, F1, hb⟩ := H.ex
  exact pmk_oex H.ox h1 h2 F1 hr hb (dvs := []) .nil pass0 hg H.at_ ha hdb hs hpl
/-- .. what it asks, of one field -/
theorem x1_read {H1 : Hp} {v : V} {Q : XK} (q : ∀ d H2, H2 d = some (.xd [(f, v)]) → H1 d = none → Same H1 H2 → Q (.ref C) (some d) H2) :
    ([v] : List V).length ≤ 1000 ∧ ∀ a, H1 a = none → spX1 C f (.ref a :: ([v] ++ [])) (upd H1 a (exo a C none))
      (fun v H2 => v = .non ∧ ∃ (d : Addr) (fs : List (Str × V)), H2 a = some (exo a C (some d)) ∧ H2 d = some (exd d fs) ∧ H1 d = none ∧ Q (.ref C) (some d) (upd (L2.del H2 a) d (.xd fs))) (fun _ _ _ => False) := by
  refine ⟨by show 1 ≤ 1000; decide, fun a na => ⟨a, v, rfl, upd_same, fun dx nd ne => ⟨rfl, dx, [(f, v)], upd_same, ?_, ?_, ?_⟩⟩⟩
  · rw [upd_ne ne, upd_same]
  · rwa [upd_ne ne] at nd
  · rw [upd_ne ne] at nd
    refine q dx _ upd_same nd fun b o h => ?_
    have ba := ne_of_none h na
    have bd := ne_of_none h nd
    rw [upd_ne bd, del_ne ba, upd_ne ba, upd_ne bd, upd_ne ba]
    exact h
end
/-! classes and defs of the program that may raise, as their callers see them -/
structure HasX (P : Program) (w : World) (K : PySem.W.Frag) (mg : Str → Option Value) (base : Heap) (nm : Str) (C : Addr) (ps : List Str) (k : Nat) (sp : Sp) : Prop where
  ex : ∃ (f : Addr) (fd : FuncData), L2.Mk K C f ∧ FnOk P w K mg base (L2.CX P w) k f fd ps sp ∧ Binds K fd ps []
  at_ : mg nm = some (.ref C)
structure HasR (P : Program) (w : World) (K : PySem.W.Frag) (mg : Str → Option Value) (base : Heap) (nm : Str) (ps : List Str) (k : Nat) (sp : Sp) : Prop where
  ex : ∃ (f : Addr) (fd : FuncData), FnOk P w K mg base (L2.CX P w) k f fd ps sp ∧ mg nm = some (.ref f) ∧ PySem.W.keepIn K (.ref f) = true ∧ Binds K fd ps []
section
variable {X : Cx} {W : WX} {C : Addr} {k : Nat} {nm : Str} {ps : List Str} {sp : Sp} {e : Expr} {es : List Expr} {t : TA} {p pos : Pos}
theorem pe_makeX (h : HasX X.prog X.w X.K X.mg X.base nm C ps k sp) (hr : Room (k + 1) X.A) (hg : Gl X nm) (tk : Takes X W) (ha : PA X (e :: es) t) (hdb : (nm == ("__debug__" : Str)) = false := by decide)
    (he : starEach (e :: es) X.env = (false, eval e X.env) :: starEach es X.env := by rfl) (hpl : (backTo pos (starEach es X.env)).any (·.1) = false := by rfl) : PE X (.Call (.Name nm p) (e :: es) [] pos) (tMakeS C sp (WE W) t) := by
  obtain ⟨f, fd, M, F, b⟩ := h.ex
  exact pe_makeS M F hr hg h.at_ b (fun σ => passAt tk σ) ha hdb he hpl
theorem pe_callX (h : HasR X.prog X.w X.K X.mg X.base nm ps k sp) (hr : Room k X.A) (hg : Gl X nm) (tk : Takes X W) (ha : PA X (e :: es) t) (hdb : (nm == ("__debug__" : Str)) = false := by decide)
    (he : starEach (e :: es) X.env = (false, eval e X.env) :: starEach es X.env := by rfl) (hpl : (backTo pos (starEach es X.env)).any (·.1) = false := by rfl) : PE X (.Call (.Name nm p) (e :: es) [] pos) (tCallS sp (WE W) t) := by
  obtain ⟨f, fd, F, g, kp, b⟩ := h.ex
  exact pe_callS F hr hg g kp b (fun σ => passAt tk σ) ha hdb he hpl
end
/-- what an except clause needs of the class that it names and of the one that flies -/
structure Catch (K : PySem.W.Frag) (mg : Str → Option Value) (nm : Str) (D : Addr) : Prop where
  at_ : mg nm = some (.ref D)
  ex : PySem.W.subIn K (.ref D) (.type "BaseException") = some true
  is : PySem.W.isClsIn K D = true
  ty : PySem.W.typeIn K (.ref D) = some (.type "type")
theorem Catch.one {K : PySem.W.Frag} {mg : Str → Option Value} {nm : Str} {C D : Addr} {b : Bool} (c : Catch K mg nm D) (h : PySem.W.subIn K (.ref C) (.ref D) = some b) : PySem.W.exmOne K (.ref C) (.ref D) = some b := by
  have e1 : (PySem.W.subIn K (.ref D) (.type "BaseException") == some true) = true := by rw [c.ex] <;> rfl
  have e2 : ((PySem.W.clsIn K D).isSome && PySem.W.typeIn K (.ref D) == some (.type "type")) = true := by
    rw [show (PySem.W.clsIn K D).isSome = true from c.is, c.ty] <;> rfl
  unfold PySem.W.exmOne
  rw [if_pos e1]
  show (if _ then _ else _) = _
  rw [if_pos e2]
  exact h
/-! what isinstance says of data -/
def tyD : PyData → String
  | .none => "NoneType"
  | .bool _ => "bool"
  | .int _ => "int"
  | .str _ => "str"
  | .list _ => "list"
  | .tuple _ => "tuple"
  | .dict _ => "dict"
def isaT (T t : String) : Bool := t == T || (T == "int" && t == "bool")
def isaD (T : String) (d : PyData) : Bool := isaT T (tyD d)
theorem dt_ty {K : PySem.W.Frag} {a : Out} {H : Hp} {v : V} {d : PyData} (h : Dt a H v d) : TyX K H v (.type (tyD d)) := by
  cases h with
  | non => exact .base .non
  | bl b => exact .base (.bl b)
  | int i => exact .base (.int i)
  | str x => exact .base (.str x)
  | lst _ h _ => exact .base (.lst h)
  | tup _ h _ => exact .base (.tup h)
  | dic _ h _ => exact .base (.dK h)
theorem kit_D {K : PySem.W.Frag} (d : PyData) {T : String} (hT : T = "int" ∨ T = "bool" ∨ T = "str" ∨ T = "list" ∨ T = "tuple" ∨ T = "dict") : PySem.W.kitOne K (.type (tyD d)) (.type T) = some (isaD T d) := by
  rcases hT with rfl | rfl | rfl | rfl | rfl | rfl <;> cases d <;> (simp only [isaD, tyD]; exact kit_ty (by decide +kernel))
theorem isi_D {K : PySem.W.Frag} {a : Out} {H : Hp} {v : V} {d : PyData} {T : String} {Q : VK} (h : Dt a H v d) (q : Q (.bl (isaD T d)) H) (hT : T = "int" ∨ T = "bool" ∨ T = "str" ∨ T = "list" ∨ T = "tuple" ∨ T = "dict" := by simp) :
    rIsi K [v, .ty T] H Q := ⟨v, .ty T, _, _, _, rfl, .ty T, dt_ty h, kit_D d hT, q⟩
end Xci

namespace Xci
open PySem PySem.Spec PyProof.Rows L2
/-! what the program's judges say of any data -/
def intD : PyData → Bool
  | .int _ => true
  | _ => false
theorem intD_isa (d : PyData) : (isaD "int" d && !isaD "bool" d) = intD d := by cases d <;> (simp only [isaD, tyD, intD]; decide +kernel)
def btwD (lo hi : Int) : PyData → Bool
  | .int x => decide (lo ≤ x ∧ x ≤ hi)
  | _ => false
def cellFrom (n : Int) : Int → List PyData → Bool
  | _, [] => true
  | lo, .int x :: r => decide (lo ≤ x ∧ x ≤ n - 1) && cellFrom n (x + 1) r
  | _, _ :: _ => false
def cellD (n : Int) : PyData → Bool
  | .tuple ds => cellFrom n 0 ds
  | _ => false
def marksD : PyData → List Int
  | .tuple ds => ds.filterMap fun d => match d with
    | .int x => some x
    | _ => none
  | _ => []
def cellsD (n : Int) : PyData → Bool
  | .tuple ds => decide (1 ≤ ds.length ∧ ds.length ≤ 24) && (ds.all (cellD n) && decide (ds.map marksD).Nodup)
  | _ => false
def spIntD : Sp := fun vs H Q _ => ∃ (a : Out) (v : V) (d : PyData), vs = [v] ∧ Dt a H v d ∧ Q (.bl (intD d)) H
def spBtwD : Sp := fun vs H Q _ => ∃ (a : Out) (lo hi : Int) (v : V) (d : PyData), vs = [.int lo, .int hi, v] ∧ Dt a H v d ∧ Q (.bl (btwD lo hi d)) H
def spCellD : Sp := fun vs H Q _ => ∃ (a : Out) (n : Int) (v : V) (d : PyData), vs = [.int n, v] ∧ Dt a H v d ∧ Q (.bl (cellD n d)) H
def spCellsD : Sp := fun vs H Q _ => ∃ (a : Out) (n : Int) (v : V) (d : PyData), vs = [.int n, v] ∧ Dt a H v d ∧ Q (.bl (cellsD n d)) H
theorem isa_tup (d : PyData) : isaD "tuple" d = true ↔ ∃ ds, d = .tuple ds := by
  cases d <;> simp [isaD, isaT, tyD]
theorem isa_tup_not {d : PyData} (h : isaD "tuple" d ≠ true) : (∀ n, cellD n d = false) ∧ ∀ n, cellsD n d = false := by
  cases d <;> first | exact ⟨fun _ => rfl, fun _ => rfl⟩ | exact absurd ((isa_tup _).mpr ⟨_, rfl⟩) h
/-- a right cell is the tuple of its marks -/
theorem cellFrom_spec {n : Int} : ∀ {lo : Int} {ds : List PyData}, cellFrom n lo ds = true → ∃ ms : List Int, ds = ms.map .int ∧ ms.Pairwise (· < ·) ∧ (∀ m ∈ ms, lo ≤ m) ∧ ∀ m ∈ ms, m < n
  | _, [], _ => ⟨[], rfl, .nil, by simp, by simp⟩
  | lo, .int x :: r, h => by
    simp only [cellFrom, Bool.and_eq_true, decide_eq_true_eq] at h
    obtain ⟨⟨h1, h2⟩, h3⟩ := h
    obtain ⟨ms, rfl, up, lo', hi⟩ := cellFrom_spec h3
    refine ⟨x :: ms, rfl, List.pairwise_cons.mpr ⟨fun m hm => by have := lo' m hm; omega, up⟩, fun m hm => ?_, fun m hm => ?_⟩
    · rcases List.mem_cons.mp hm with rfl | hm
      · exact h1
      · have := lo' m hm; omega
    · rcases List.mem_cons.mp hm with rfl | hm
      · omega
      · exact hi m hm
  | _, .none :: _, h => by simp [cellFrom] at h
  | _, .bool _ :: _, h => by simp [cellFrom] at h
  | _, .str _ :: _, h => by simp [cellFrom] at h
  | _, .list _ :: _, h => by simp [cellFrom] at h
  | _, .tuple _ :: _, h => by simp [cellFrom] at h
  | _, .dict _ :: _, h => by simp [cellFrom] at h
theorem cellD_spec {n : Int} {d : PyData} (h : cellD n d = true) : ∃ ms : List Int, d = .tuple (ms.map .int) ∧ MarksOk n ms ∧ marksD d = ms := by
  cases d with
  | tuple ds =>
    obtain ⟨ms, rfl, up, lo, hi⟩ := cellFrom_spec h
    refine ⟨ms, rfl, ⟨up, lo, hi⟩, ?_⟩
    show (ms.map PyData.int).filterMap _ = ms
    rw [List.filterMap_map]
    exact List.filterMap_some
  | _ => cases h
theorem cellFrom_of {n : Int} : ∀ {lo : Int} {ms : List Int}, ms.Pairwise (· < ·) → (∀ m ∈ ms, lo ≤ m) → (∀ m ∈ ms, m < n) → cellFrom n lo (ms.map .int) = true
  | _, [], _, _, _ => rfl
  | lo, m :: r, up, h1, h2 => by
    obtain ⟨u1, u2⟩ := List.pairwise_cons.mp up
    have a1 := h1 m (List.mem_cons_self ..)
    have a2 := h2 m (List.mem_cons_self ..)
    simp only [List.map_cons, cellFrom, Bool.and_eq_true, decide_eq_true_eq]
    exact ⟨⟨a1, by omega⟩, cellFrom_of u2 (fun k hk => by have := u1 k hk; omega) fun k hk => h2 k (List.mem_cons_of_mem _ hk)⟩
theorem dt_tup {a : Out} {H : Hp} {v : V} {ds : List PyData} (h : Dt a H v (.tuple ds)) : ∃ p xs, v = .ref p ∧ ¬ a p ∧ H p = some (.tup xs) ∧ DtAll a H xs ds := by
  cases h with
  | tup n h r => exact ⟨_, _, rfl, n, h, r⟩
theorem dt_ints {a : Out} {H : Hp} : ∀ {ms : List Int} {xs : List V}, DtAll a H xs (ms.map .int) → xs = ms.map V.int
  | [], _, .nil => rfl
  | m :: r, _, .cons h rs => by
    cases h
    rw [dt_ints rs]
    rfl
theorem dt_cell {a : Out} {H : Hp} {v : V} {n : Int} {d : PyData} (h : Dt a H v d) (c : cellD n d = true) : ∃ ms, MarksOk n ms ∧ marksD d = ms ∧ Xci.Mk H v ms := by
  obtain ⟨ms, rfl, ok, e⟩ := cellD_spec c
  obtain ⟨p, xs, rfl, _, hp, r⟩ := dt_tup h
  rw [dt_ints r] at hp
  exact ⟨ms, ok, e, p, rfl, hp⟩
theorem dt_cells {a : Out} {H : Hp} {n : Int} : ∀ {xs : List V} {ds : List PyData}, DtAll a H xs ds → ds.all (cellD n) = true → Mks H xs (ds.map marksD) ∧ ∀ c ∈ ds.map marksD, MarksOk n c
  | _, _, .nil, _ => ⟨.nil, fun _ h => nomatch h⟩
  | _, _, .cons h rs, c => by
    simp only [List.all_cons, Bool.and_eq_true] at c
    obtain ⟨ms, ok, e, m⟩ := dt_cell h c.1
    obtain ⟨q1, q2⟩ := dt_cells rs c.2
    refine ⟨.cons (by rw [e]; exact m) q1, fun k hk => ?_⟩
    rcases List.mem_cons.mp hk with rfl | hk
    · rw [e]; exact ok
    · exact q2 k hk
theorem all_at {α : Type} {p : α → Bool} {xs : List α} {i : Nat} {x : α} (h : xs[i]? = some x) (hp : p x = false) : xs.all p = false := by
  rw [Bool.eq_false_iff]
  intro z
  have := List.all_eq_true.mp z x (List.mem_of_getElem? h)
  rw [hp] at this
  cases this
end Xci

namespace Xci
open PySem PySem.Spec PyProof.Rows L2
/-! written data: what stands in the text as a display of constants -/
theorem PE.weak {X : Cx} {e : Expr} {t t' : TE} (h : PE X e t) (q : ∀ σ H Q, t' σ H Q → t σ H Q) : PE X e t' := ⟨fun pins s σ H Q I y => h.run pins s σ H Q I (q σ H Q y)⟩
theorem PA.weak {X : Cx} {es : List Expr} {t t' : TA} (h : PA X es t) (q : ∀ σ H Q, t' σ H Q → t σ H Q) : PA X es t' := ⟨fun pos pins s σ H Q I y => h.run pos pins s σ H Q I (q σ H Q y)⟩
/-- nothing that is kept out is free -/
def Used (N : Out) (H : Hp) : Prop := ∀ p, N p → H p ≠ none
theorem Used.same {N : Out} {H H' : Hp} (u : Used N H) (s : Same H H') : Used N H' := fun p n z => by
  cases e : H p with
  | none => exact u p n e
  | some o => rw [s _ _ e] at z; cases z
theorem Used.new {N : Out} {H : Hp} {p : Addr} (u : Used N H) (h : H p = none) : ¬ N p := fun n => u p n h
def tLit (N : Out) (d : PyData) : TE := fun _ H Q => Used N H ∧ ∀ v H', Same H H' → Dt N H' v d → Q v H'
def tLits (N : Out) (ds : List PyData) : TA := fun _ H Q => Used N H ∧ ∀ vs H', Same H H' → DtAll N H' vs ds → Q vs H'
section
variable {X : Cx} {N : Out} {e : Expr} {es : List Expr} {d : PyData} {ds : List PyData} {pos : Pos}
theorem lit_c {t : TE} {v : V} (h : PE X e t) (ht : t = tC v) (hd : ∀ H, Dt N H v d) : PE X e (tLit N d) := PE.weak h fun σ H Q q => by
  rw [ht]
  exact q.2 v H (Same.refl H) (hd H)
theorem lit_non {j : Nat} {p : Pos} : PE X (.Constant .none j p) (tLit N .none) := lit_c pe_non rfl fun _ => .non
theorem lit_bl {b : Bool} {j : Nat} {p : Pos} : PE X (.Constant (.bool b) j p) (tLit N (.bool b)) := lit_c pe_bl rfl fun _ => .bl b
theorem lit_int {i : Int} {j : Nat} {p : Pos} : PE X (.Constant (.int i) j p) (tLit N (.int i)) := lit_c pe_int rfl fun _ => .int i
theorem lit_str {x : Str} {j : Nat} {p : Pos} : PE X (.Constant (.str x) j p) (tLit N (.str x)) := lit_c pe_str rfl fun _ => .str x
theorem lit_neg {i : Int} {j : Nat} {p p2 : Pos} : PE X (.UnaryOp .USub (.Constant (.int i) j p) p2) (tLit N (.int (-i))) := PE.weak (pe_un un_neg pe_int) fun σ H Q q => ⟨i, rfl, q.2 _ H (Same.refl H) (.int _)⟩
theorem lit_pow {i k : Int} {j j2 : Nat} {p p2 p3 : Pos} (h : 0 ≤ k ∧ k ≤ 1000000 ∧ i.natAbs < 2 ^ 64) : PE X (.BinOp (.Constant (.int i) j p) .Pow (.Constant (.int k) j2 p2) p3) (tLit N (.int (i ^ k.toNat))) :=
  PE.weak (pe_op op_pow pe_int pe_int) fun σ H Q q => ⟨i, k, rfl, rfl, h, q.2 _ H (Same.refl H) (.int _)⟩
theorem lit_powadd {i k m : Int} {j j2 j3 : Nat} {p p2 p3 p4 p5 : Pos} (h : 0 ≤ k ∧ k ≤ 1000000 ∧ i.natAbs < 2 ^ 64) : PE X (.BinOp (.BinOp (.Constant (.int i) j p) .Pow (.Constant (.int k) j2 p2) p3) .Add (.Constant (.int m) j3 p4) p5) (tLit N (.int (i ^ k.toNat + m))) :=
  PE.weak (pe_op op_add (pe_op op_pow pe_int pe_int) pe_int) fun σ H Q q => ⟨i, k, rfl, rfl, h, _, _, rfl, rfl, q.2 _ H (Same.refl H) (.int _)⟩
theorem lits_nil : PA X [] (tLits N []) := PA.weak pa_nil fun σ H Q q => q.2 [] H (Same.refl H) .nil
theorem lits_cons (h : PE X e (tLit N d)) (r : PA X es (tLits N ds)) (hs : starEach (e :: es) X.env = (false, eval e X.env) :: starEach es X.env := by rfl) : PA X (e :: es) (tLits N (d :: ds)) :=
  PA.weak (pa_cons h r hs) fun σ H Q q => ⟨q.1, fun v H1 s1 dv => ⟨q.1.same s1, fun vs H2 s2 rs => q.2 (v :: vs) H2 (s1.trans s2) (.cons (dv.fr (FrO.same s2)) rs)⟩⟩
theorem lit_tup {x1} (h : PA X es (tLits N ds)) (hl : ds.length ≤ 1000) : PE X (.Tuple es x1 pos) (tLit N (.tuple ds)) := PE.weak (pe_tup h) fun σ H Q q => ⟨q.1, fun vs H1 s1 r =>
  ⟨by rw [r.len]; exact Nat.le_of_lt (small1000 hl), fun p np => q.2 _ _ (s1.trans (Same.new np)) (.tup ((q.1.same s1).new np) upd_same (r.fr (FrO.same (Same.new np))))⟩⟩
theorem lit_lst (h : PA X es (tLits N ds)) (hl : ds.length ≤ 1000) : PE X (.List es pos) (tLit N (.list ds)) := PE.weak (pe_lst h) fun σ H Q q => ⟨q.1, fun vs H1 s1 r =>
  ⟨by rw [r.len]; exact Nat.le_of_lt (small1000 hl), fun p np => q.2 _ _ (s1.trans (Same.new np)) (.lst ((q.1.same s1).new np) upd_same (r.fr (FrO.same (Same.new np))))⟩⟩
theorem lit_dict0 : PE X (.Dict [] [] pos) (tLit N (.dict [])) := PE.weak pe_dnewK fun σ H Q q => fun p np => q.2 _ _ (Same.new np) (.dic (kvs := []) (ds := []) (q.1.new np) upd_same .nil)
end
/-! short data, put together -/
structure FineAll (n k : Nat) (ds : List PyData) : Prop where
  sh : PyData.showableAll ds = true
  lv : PyData.leavesShortAll 40 ds = true
  bk : PyData.bulkAll ds ≤ n
  dp : PyData.depthAll ds ≤ k
theorem FineAll.nil {n k : Nat} : FineAll n k [] := ⟨rfl, rfl, Nat.zero_le _, Nat.zero_le _⟩
theorem FineAll.cons {n m k : Nat} {d : PyData} {ds : List PyData} (h : Fine n k d) (r : FineAll m k ds) : FineAll (n + 1 + m) k (d :: ds) := by
  refine ⟨?_, ?_, ?_, ?_⟩
  · simp only [PyData.showableAll, h.sh, r.sh, Bool.and_self]
  · simp only [PyData.leavesShortAll, h.lv, r.lv, Bool.and_self]
  · have := h.bk; have := r.bk; simp only [PyData.bulkAll]; omega
  · have := h.dp; have := r.dp; simp only [PyData.depthAll]; omega
theorem FineAll.tup {n k : Nat} {ds : List PyData} (r : FineAll n k ds) : Fine n (k + 1) (.tuple ds) :=
  ⟨by simpa only [PyData.showable] using r.sh, by simpa only [PyData.leavesShort] using r.lv, by simpa only [PyData.bulk] using r.bk, by have := r.dp; simp only [PyData.depth]; omega⟩
theorem FineAll.lst {n k : Nat} {ds : List PyData} (r : FineAll n k ds) : Fine n (k + 1) (.list ds) :=
  ⟨by simpa only [PyData.showable] using r.sh, by simpa only [PyData.leavesShort] using r.lv, by simpa only [PyData.bulk] using r.bk, by have := r.dp; simp only [PyData.depth]; omega⟩
theorem Fine.mono {n k m j : Nat} {d : PyData} (h : Fine n k d) (h1 : n ≤ m) (h2 : k ≤ j) : Fine m j d := ⟨h.sh, h.lv, Nat.le_trans h.bk h1, Nat.le_trans h.dp h2⟩
theorem FineAll.mono {n k m j : Nat} {ds : List PyData} (h : FineAll n k ds) (h1 : n ≤ m) (h2 : k ≤ j) : FineAll m j ds := ⟨h.sh, h.lv, Nat.le_trans h.bk h1, Nat.le_trans h.dp h2⟩
theorem fine_one {n k : Nat} {x : Str} {d : PyData} (h : Fine n k d) (hx : ∀ c ∈ x.cps.toList, c < 16 ^ 8) : Fine (x.cps.size + n + 2) (k + 1) (.dict [(.str x, d)]) := by
  refine ⟨?_, ?_, ?_, ?_⟩
  · simp only [PyData.showable, PyData.showableKv, h.sh, Bool.and_self]
  · simp only [PyData.leavesShort, PyData.leavesShortKv, h.lv, Bool.and_true, List.all_eq_true, decide_eq_true_eq]
    exact hx
  · have := h.bk; simp only [PyData.bulk, PyData.bulkKv]; omega
  · have := h.dp; simp only [PyData.depth, PyData.depthKv]; omega
theorem bulk_len : ∀ ds : List PyData, ds.length ≤ PyData.bulkAll ds
  | [] => Nat.zero_le _
  | d :: r => by have := bulk_len r; simp only [PyData.bulkAll, List.length_cons]; omega
theorem fine_len {n k : Nat} {ds : List PyData} (h : Fine n k (.tuple ds)) : ds.length ≤ n := Nat.le_trans (bulk_len ds) (by simpa only [PyData.bulk] using h.bk)
end Xci

namespace Xci
open PySem PySem.Spec PyProof.Rows L2
/-! a cell in a tuple of cells -/
def mkD (ms : List Int) : PyData := .tuple (ms.map .int)
theorem dpAll_ints {K : PySem.W.Frag} {H : Hp} : ∀ ms : List Int, DpAll K H (ms.map V.int) (ms.map PyData.int)
  | [] => .nil
  | m :: r => .cons (.int m) (dpAll_ints r)
theorem dp_mk {K : PySem.W.Frag} {H : Hp} {v : V} {ms : List Int} (h : Xci.Mk H v ms) : Dp K H v (mkD ms) := by
  obtain ⟨p, rfl, hp⟩ := h
  exact .tup (sqT hp) (dpAll_ints ms)
theorem dpAll_mks {K : PySem.W.Frag} {H : Hp} : ∀ {ys : List V} {cs : List (List Int)}, Mks H ys cs → DpAll K H ys (cs.map mkD)
  | _, _, .nil => .nil
  | _, _, .cons h t => .cons (dp_mk h) (dpAll_mks t)
theorem lay_mk (ms : List Int) : PyData.canLay0 (mkD ms) = true := by
  unfold mkD
  simp only [PyData.canLay0]
  exact (lay_ints ms).1
theorem lay_mks : ∀ cs : List (List Int), PyData.canLayAll0 (cs.map mkD) = true
  | [] => by simp [PyData.canLayAll0]
  | c :: r => by
    simp only [List.map_cons, PyData.canLayAll0, lay_mk c, lay_mks r, Bool.and_self]
theorem deep_mk (ms : List Int) : PyData.depth (mkD ms) = 1 := by
  unfold mkD
  simp only [PyData.depth, (lay_ints ms).2]
theorem any_mk (ms : List Int) : ∀ cs : List (List Int), ((cs.map mkD).any fun z => PyData.eqv z (mkD ms)) = decide (ms ∈ cs)
  | [] => rfl
  | c :: r => by
    have e : PyData.eqv (mkD c) (mkD ms) = decide (c = ms) := by
      unfold mkD
      simp only [PyData.eqv]
      exact eqvAll_ints c ms
    rw [List.map_cons, List.any_cons, any_mk ms r, e, Bool.eq_iff_iff]
    simp only [Bool.or_eq_true, decide_eq_true_eq, List.mem_cons]
    constructor
    · rintro (h | h)
      · exact .inl h.symm
      · exact .inr h
    · rintro (h | h)
      · exact .inl h.symm
      · exact .inr h
def rInMk (K : PySem.W.Frag) : R2 := fun x y H Q => ∃ (p : Addr) (ys : List V) (cs : List (List Int)) (ms : List Int), Xci.Mk H x ms ∧ y = .ref p ∧ SqT K H p ys ∧ Mks H ys cs ∧ Q (.bl (decide (ms ∈ cs))) H
theorem op_inMk {X : Cx} (hu : X.A.units + 64 < cLine) : OpR X (compareOp .In) (rInMk X.K) := by
  intro pins s σ H x y v u Q I rx ry h
  obtain ⟨p, ys, cs, ms, hm, rfl, hs, hcs, q⟩ := h
  obtain ⟨as, r1⟩ := Dp.reads I _ x v (dp_mk hm) rx
  obtain ⟨bs, r2⟩ := Dp.reads I (.tuple (cs.map mkD)) _ u (.tup hs (dpAll_mks hcs)) ry
  refine SeqAt.in_tuple_reads r2 r1 (lay_mks cs) (lay_mk ms) (by rw [deep_mk]; have : min (PyData.depthAll (cs.map mkD)) 1 ≤ 1 := Nat.min_le_right _ _; omega) ?_
  rw [any_mk]
  exact ⟨.bl _, H, I, rfl, q⟩
end Xci

namespace Xci
open PySem PySem.Spec PyProof.Rows L2
/-! a tuple turned about by a slice -/
section
variable {prog : Program} {w : World} {A : Around} {E : Value → Shared → Prop} {s : Shared}
theorem back_bounds (n : Nat) : Builtin.Slice.sliceAdjust none none (-1) (n : Int) = ((n : Int) - 1, -1) := by
  unfold Builtin.Slice.sliceAdjust
  rfl
theorem back_places (n : Nat) : Builtin.Slice.slicePlaces ((n : Int) - 1) (-1) (-1) = n := by
  unfold Builtin.Slice.slicePlaces
  have h : ¬ ((-1 : Int) > 0) := by decide
  simp only [h, if_false, Int.neg_neg, Int.ediv_one]
  split <;> omega
theorem filterMap_told {α β : Type} {f : α → Option β} {g : α → β} : ∀ {l : List α}, (∀ x ∈ l, f x = some (g x)) → l.filterMap f = l.map g
  | [], _ => rfl
  | x :: r, h => by
    rw [List.filterMap_cons, h x (List.mem_cons_self ..), List.map_cons, filterMap_told fun y hy => h y (List.mem_cons_of_mem _ hy)]
theorem back_pick (xs : Array Value) : ((List.range xs.size).filterMap fun (k : Nat) => xs[((xs.size : Int) - 1 + (k : Int) * (-1)).toNat]?).toArray = xs.toList.reverse.toArray := by
  congr 1
  have all : (List.range xs.size).filterMap (fun (k : Nat) => xs[((xs.size : Int) - 1 + (k : Int) * (-1)).toNat]?) = (List.range xs.size).map fun k => xs.toList.reverse[k]?.getD .none := by
    refine filterMap_told fun k hk => ?_
    have hk := List.mem_range.mp hk
    have e : ((xs.size : Int) - 1 + (k : Int) * (-1)).toNat = xs.size - 1 - k := by omega
    have l : k < xs.toList.reverse.length := by simpa using hk
    rw [e, List.getElem?_eq_getElem l, List.getElem_reverse, Array.getElem?_eq_getElem (by omega)]
    simp
  rw [all]
  refine List.ext_getElem (by simp) fun i h1 h2 => ?_
  rw [List.getElem_map, List.getElem_range, List.getElem?_eq_getElem h2]
  rfl
theorem getItem_back {t sl : Addr} {items : Array Value} {vl vu vs : Value} {Q : Value → Shared → Prop} (ht : IsTup s.heap t items) (hs : s.heap.IsSliceOf sl vl vu vs) (pl : IsPart vl none) (pu : IsPart vu none) (ps : IsPart vs (some (-1)))
    (h : Q (.ref s.heap.objs.size) { s with heap := s.heap.push { cls := .type "tuple", data := .seq items.toList.reverse.toArray } }) (hsz : items.size ≤ sizeLine) : wpAny (model prog w) A (getItem (.ref t) (.ref sl)) Q E s := by
  have room : sizeOk (.seq items.toList.reverse.toArray) := by
    show items.toList.reverse.toArray.size ≤ sizeLine
    simpa using hsz
  obtain ⟨os, hos, hcs, hds⟩ := id hs
  have hTs : s.TypeIs (.ref sl) "slice" := ⟨os, hos, hcs⟩
  have app : ∀ {A' : Around} {E' : Value → Shared → Prop} {Q' : Int × Int × Nat → Shared → Prop}, Q' ((items.size : Int) - 1, -1, items.size) s → wpAny (model prog w) A' (Builtin.Slice.sliceApplied (.ref sl) (pure (items.size : Int))) Q' E' s := fun {A' E' Q'} q => by
    unfold Builtin.Slice.sliceApplied Builtin.Slice.sliceFields
    refine wpAny_bind (wpAny_bind (wpAny_field hos hds (x := vl) rfl (wpAny_bind (wpAny_field hos hds (x := vu) rfl (wpAny_bind (wpAny_field hos hds (x := vs) rfl (wpAny_pure ?_)))))))
    refine wpAny_bind (HT.slicePart_ ps ?_)
    show wpAny _ _ (if ((-1 : Int) == 0) = true then _ else _) _ _ s
    rw [if_neg (by decide)]
    refine wpAny_bind (HT.slicePart_ pl (wpAny_bind (HT.slicePart_ pu (wpAny_bind (wpAny_pure ?_)))))
    show wpAny _ _ (match Builtin.Slice.sliceAdjust none none (-1) (items.size : Int) with | (lo, hi) => pure (lo, (-1 : Int), Builtin.Slice.slicePlaces lo hi (-1))) _ _ s
    rw [back_bounds]
    show wpAny _ _ (pure ((items.size : Int) - 1, (-1 : Int), Builtin.Slice.slicePlaces ((items.size : Int) - 1) (-1) (-1))) _ _ s
    rw [back_places]
    exact wpAny_pure q
  unfold getItem
  try with_reducible refine wpAny_holding ?_
  first | refine wpAny_bind (wpAny_pure ?_) | skip
  refine wpAny_bind (wpAny_sequenceKey ht.typeIs (by decide) ?_)
  refine wpAny_bind (wpAny_callSpecial?_slot (name := Str.ofString "__getitem__") ht.typeIs PyProof.Rows.slot_tuple_getitem (wpAny_call_entry PyProof.Rows.slot_tuple_getitem ht.typeIs entry_tuple_getitem ?_ (args_tuple_getitem _ _)))
  show wpAny _ _ (Builtin.Tuple.tupleItemsOf (.ref t) >>= _) _ _ s
  refine wpAny_bind (tupleItemsOf_ ht (wpAny_bind (wpAny_typeOf hTs ?_)))
  rw [if_pos (by decide)]
  refine wpAny_bind (app ?_)
  show wpAny _ _ (if (((items.size : Int) - 1) == 0 && ((-1 : Int) == 1) && items.size == items.size) = true then _ else _) _ _ s
  rw [show ((-1 : Int) == 1) = false from by decide, Bool.and_false, Bool.false_and, if_neg Bool.false_ne_true, back_pick]
  first
    | exact wpAny_bind (m := Builtin.Tuple.tupleExact _) (wpAny_newObj_type (wpAny_pure ⟨_, rfl, wpAny_pure h⟩) room)
    | exact wpAny_bind (m := Builtin.Tuple.tupleExact _) (wpAny_newObj_type (wpAny_bind (wpAny_pure (wpAny_pure ⟨_, rfl, wpAny_pure h⟩))) room)
    | exact wpAny_bind (wpAny_bind (m := Builtin.Tuple.tupleExact _) (wpAny_newObj_type (wpAny_pure (wpAny_pure ⟨_, rfl, wpAny_pure h⟩)) room))
    | exact wpAny_bind (wpAny_bind (m := Builtin.Tuple.tupleExact _) (wpAny_newObj_type (wpAny_pure ⟨_, rfl, wpAny_pure h⟩) room))
end
def tRevT (K : PySem.W.Frag) (te : TE) : TE := fun σ H Q => te σ H fun x H1 => ∃ a xs, x = .ref a ∧ SqT K H1 a xs ∧ ∀ p, H1 p = none → Q (.ref p) (upd H1 p (.tup xs.reverse))
theorem pe_revT {X : Cx} {e : Expr} {te : TE} {k : Nat} {p1 p2 p3 pos : Pos} (he : PE X e te) : PE X (.Subscript e (.Slice none none (some (.UnaryOp .USub (.Constant (.int 1) k p1) p2)) p3) pos) (tRevT X.K te) := by
  refine ⟨fun pins s σ H Q I h => Subscript_ (thn (he.run pins s σ H _ I h) fun v s1 ⟨x, H1, I1, r1, a, xs, ex, hx, q⟩ => ?_)⟩
  subst ex
  cases r1
  have step : PO X (some (.UnaryOp .USub (.Constant (.int 1) k p1) p2)) (tPart (tUn (rU fun i => .int (-i)) (tC (.int 1)))) := po_some (pe_un un_neg pe_int)
  refine wpAny_Slice (thn (po_none.run pins s1 σ H1 (fun o H2 => o = none ∧ H2 = H1) I1 ⟨rfl, rfl⟩) fun vl s2 ⟨l, H2, I2, pl, el, e2⟩ => ?_)
  subst el e2
  refine thn (po_none.run pins s2 σ H2 (fun o H3 => o = none ∧ H3 = H2) I2 ⟨rfl, rfl⟩) fun vu s3 ⟨u, H3, I3, pu, eu, e3⟩ => ?_
  subst eu e3
  refine thn (step.run pins s3 σ H3 (fun o H4 => o = some (-1) ∧ H4 = H3) I3 ⟨1, rfl, -1, rfl, rfl, rfl⟩) fun vs s4 ⟨o, H4, I4, ps, eo, e4⟩ => ?_
  subst eo e4
  have J : Inv X pins σ H4 { s4 with heap := s4.heap.push { cls := .type "slice", data := .fields #[vl, vu, vs] } } := I4.kept (t' := s4.toks) fun b ob z => Heap.get?_push_of_some _ z
  obtain ⟨its, r, ht, hz⟩ := J.tuple hx
  have size : its.toArray.size = xs.length := by rw [List.size_toArray]; exact r.length.symm
  show wpAny (model X.prog X.w) X.A (subscriptTail e _ (.ref a) (.ref s4.heap.objs.size)) (EP X pins σ Q) X.xe _
  refine tail_any (ops := [.ref a, .ref s4.heap.objs.size]) ht.typeIs PyProof.Rows.slot_tuple_getitem.lookup ?_ (by with_unfolding_all rfl)
  refine getItem_back ht (Heap.IsSliceOf.new _ vl vu vs) pl pu ps ?_ (by rw [size]; exact hz)
  refine ⟨.ref _, _, J.laid (t' := s4.toks) (o := .tup xs.reverse) (fun b ob z => Heap.get?_push_of_some _ z) (Nat.le_refl _) ?_, rfl, q _ (J.hok.fresh (Nat.le_refl _))⟩
  exact ⟨by rw [List.length_reverse]; exact hz, _, r.reverse, IsTup.new _ _⟩
end Xci

namespace Xci
open PySem PySem.Spec PyProof.Rows L2
/-! tuples of data, put together and cut -/
section
variable {K : PySem.W.Frag} {N : Out} {H : Hp} {x y : V} {ds es : List PyData} {Q : VK}
theorem cat_D (hx : Dt N H x (.tuple ds)) (hy : Dt N H y (.tuple es)) (u : Used N H) (small : ds.length + es.length ≤ 5000) (q : ∀ v H', Same H H' → Dt N H' v (.tuple (ds ++ es)) → Q v H') : rCatA K x y H Q := by
  obtain ⟨a, xs, rfl, na, ha, ra⟩ := dt_tup hx
  obtain ⟨b, ys, rfl, nb, hb, rb⟩ := dt_tup hy
  have l1 := ra.len
  have l2 := rb.len
  refine ⟨a, b, xs, ys, rfl, rfl, sqT ha, sqT hb, by rw [l1, l2, sizeLine_eq]; omega, fun e => ?_, fun _ e => ?_, fun _ _ p hp => ?_⟩
  · subst e
    have : ds = [] := List.eq_nil_of_length_eq_zero (by rw [← l1]; rfl)
    subst this
    exact q _ H (Same.refl H) hy
  · subst e
    have : es = [] := List.eq_nil_of_length_eq_zero (by rw [← l2]; rfl)
    subst this
    exact q _ H (Same.refl H) (by rw [List.append_nil]; exact hx)
  · exact q _ _ (Same.new hp) (.tup (u.new hp) upd_same ((ra.append rb).fr (FrO.same (Same.new hp))))
/-- the first k, or all behind them -/
theorem cutFromD (xs : List V) (k : Nat) : cutV xs (some (k : Int)) none = xs.drop k := by
  have e1 : HT.sIx xs.length xs.length none = xs.length := rfl
  unfold cutV
  rw [e1, HT.sIx_nat]
  by_cases h : k ≤ xs.length
  · rw [Nat.min_eq_left h, List.take_of_length_le (by rw [List.length_drop]; omega)]
  · rw [Nat.min_eq_right (by omega), List.drop_of_length_le (Nat.le_refl _), List.drop_of_length_le (by omega), List.take_nil]
theorem to_D {k : Nat} (hx : Dt N H x (.tuple ds)) (u : Used N H) (q : ∀ v H', Same H H' → Dt N H' v (.tuple (ds.take k)) → Q v H') : rSlA K x none (some (k : Int)) H Q := by
  obtain ⟨a, xs, rfl, na, ha, ra⟩ := dt_tup hx
  have l1 := ra.len
  refine ⟨a, xs, rfl, sqT ha, fun full => ?_, fun _ p hp => ?_⟩
  · have z := full.2
    rw [HT.sIx_nat] at z
    refine q _ H (Same.refl H) ?_
    rw [List.take_of_length_le (by omega)]
    exact hx
  · rw [cutTo]
    exact q _ _ (Same.new hp) (.tup (u.new hp) upd_same ((ra.cut k).1.fr (FrO.same (Same.new hp))))
theorem from_D {k : Nat} (hx : Dt N H x (.tuple ds)) (u : Used N H) (q : ∀ v H', Same H H' → Dt N H' v (.tuple (ds.drop k)) → Q v H') : rSlA K x (some (k : Int)) none H Q := by
  obtain ⟨a, xs, rfl, na, ha, ra⟩ := dt_tup hx
  have l1 := ra.len
  refine ⟨a, xs, rfl, sqT ha, fun full => ?_, fun _ p hp => ?_⟩
  · have z := full.1
    rw [HT.sIx_nat] at z
    refine q _ H (Same.refl H) ?_
    by_cases h : k = 0
    · subst h
      exact hx
    · have : xs.length = 0 := by omega
      have e : ds = [] := List.eq_nil_of_length_eq_zero (by omega)
      subst e
      simpa using hx
  · rw [cutFromD]
    exact q _ _ (Same.new hp) (.tup (u.new hp) upd_same ((ra.cut k).2.fr (FrO.same (Same.new hp))))
theorem to_Di {i : Int} {k : Nat} (e : i = (k : Int)) (hx : Dt N H x (.tuple ds)) (u : Used N H) (q : ∀ v H', Same H H' → Dt N H' v (.tuple (ds.take k)) → Q v H') : rSlA K x none (some i) H Q := by
  subst e
  exact to_D hx u q
theorem from_Di {i : Int} {k : Nat} (e : i = (k : Int)) (hx : Dt N H x (.tuple ds)) (u : Used N H) (q : ∀ v H', Same H H' → Dt N H' v (.tuple (ds.drop k)) → Q v H') : rSlA K x (some i) none H Q := by
  subst e
  exact from_D hx u q
theorem dtAll_rev : ∀ {xs : List V} {ds : List PyData}, DtAll N H xs ds → DtAll N H xs.reverse ds.reverse
  | _, _, .nil => .nil
  | _, _, .cons h r => by
    rw [List.reverse_cons, List.reverse_cons]
    exact (dtAll_rev r).append (.cons h .nil)
theorem tup1_D (u : Used N H) (hx : Dt N H x d) (q : ∀ v H', Same H H' → Dt N H' v (.tuple [d]) → Q v H') : [x].length ≤ sizeLine ∧ ∀ p, H p = none → Q (.ref p) (upd H p (.tup [x])) :=
  ⟨by show 1 ≤ sizeLine; decide, fun p hp => q _ _ (Same.new hp) (.tup (u.new hp) upd_same (.cons (hx.fr (FrO.same (Same.new hp))) .nil))⟩
end
/-! cells as data -/
theorem dt_mk {N : Out} {H : Hp} {v : V} {ms : List Int} (h : Xci.Mk H v ms) (n : ∀ p xs, N p → H p ≠ some (.tup xs)) : Dt N H v (mkD ms) := by
  obtain ⟨p, rfl, hp⟩ := h
  refine .tup (fun z => n p _ z hp) hp ?_
  have : ∀ ks : List Int, DtAll N H (ks.map V.int) (ks.map PyData.int) := fun ks => by
    induction ks with
    | nil => exact .nil
    | cons k r ih => exact .cons (.int k) ih
  exact this ms
theorem dt_mks {N : Out} {H : Hp} (n : ∀ p xs, N p → H p ≠ some (.tup xs)) : ∀ {ys : List V} {cs : List (List Int)}, Mks H ys cs → DtAll N H ys (cs.map mkD)
  | _, _, .nil => .nil
  | _, _, .cons h t => .cons (dt_mk h n) (dt_mks n t)
theorem deck_no_tup {a l : Addr} {H : Hp} (d : Deck H a l) : ∀ p xs, p = a → H p ≠ some (.tup xs) := fun p xs e z => by
  obtain ⟨ys, h⟩ := d.is
  rw [e, h] at z
  cases z
theorem deck_used {a l : Addr} {H : Hp} (d : Deck H a l) : Used (· = a) H := fun p e z => by
  obtain ⟨ys, h⟩ := d.is
  have e : p = a := e
  rw [e, h] at z
  cases z
/-! what is short -/
theorem fine_int {n k : Nat} {i : Int} (h : i.natAbs < 10 ^ 12) : Fine n k (.int i) := by
  refine ⟨?_, ?_, Nat.zero_le _, Nat.zero_le _⟩
  · simp only [PyData.showable, decide_eq_true_eq]
    by_cases z : i.natAbs = 0
    · rw [z]
      decide
    · exact (Nat.log2_lt z).mpr (Nat.lt_of_lt_of_le h (by decide +kernel))
  · have := PyData.shown_int_le h
    simp only [PyData.leavesShort, decide_eq_true_eq]
    omega
theorem FineAll.of {n k : Nat} : ∀ {ds : List PyData}, (∀ d ∈ ds, Fine n k d) → FineAll ((n + 1) * ds.length) k ds
  | [], _ => .nil
  | d :: r, h => by
    refine (FineAll.cons (h d (List.mem_cons_self ..)) (FineAll.of fun e he => h e (List.mem_cons_of_mem _ he))).mono ?_ (Nat.le_refl _)
    rw [List.length_cons, Nat.mul_succ]
    omega
theorem FineAll.append {n m k : Nat} : ∀ {xs ys : List PyData}, FineAll n k xs → FineAll m k ys → FineAll (n + m) k (xs ++ ys)
  | [], ys, _, h => h.mono (Nat.le_add_left _ _) (Nat.le_refl _)
  | d :: r, ys, h, g => by
    have h1 := h.sh
    have h2 := h.lv
    have h3 := h.bk
    have h4 := h.dp
    simp only [PyData.showableAll, Bool.and_eq_true] at h1
    simp only [PyData.leavesShortAll, Bool.and_eq_true] at h2
    simp only [PyData.bulkAll] at h3
    simp only [PyData.depthAll] at h4
    have ih := FineAll.append (n := n - d.bulk - 1) (m := m) (k := k) (xs := r) (ys := ys) ⟨h1.2, h2.2, by omega, by omega⟩ g
    refine (FineAll.cons (n := d.bulk) ⟨h1.1, h2.1, Nat.le_refl _, by omega⟩ ih).mono (by omega) (Nat.le_refl _)
theorem fine_mk {ms : List Int} (hl : ms.length ≤ 60) (h : ∀ m ∈ ms, m.natAbs < 10 ^ 12) : Fine 60 1 (mkD ms) := by
  refine ((FineAll.of (n := 0) (k := 0) fun d hd => ?_).tup).mono ?_ (Nat.le_refl _)
  · obtain ⟨m, hm, rfl⟩ := List.mem_map.mp hd
    exact fine_int (h m hm)
  · rw [List.length_map]
    omega
def Wide (d : PyData) : Prop := ∀ ds, d = .tuple ds → ∀ e ∈ ds, ∀ es, e = .tuple es → es.length ≤ 900
theorem wide_all {n k : Nat} {ds : List PyData} (hn : n ≤ 900) (h : ∀ e ∈ ds, Fine n k e) : Wide (.tuple ds) := fun ds' e z hz es ez => by
  cases e
  subst ez
  exact Nat.le_trans (fine_len (h _ hz)) hn
theorem bulk_mem {ds : List PyData} {d : PyData} (h : d ∈ ds) : d.bulk ≤ PyData.bulkAll ds := by
  induction ds with
  | nil => cases h
  | cons x r ih =>
    simp only [PyData.bulkAll]
    rcases List.mem_cons.mp h with rfl | h
    · omega
    · have := ih h; omega
theorem wide_of {n k : Nat} {d : PyData} (hn : n ≤ 900) (h : Fine n k d) : Wide d := fun ds e z hz es ez => by
  subst e ez
  have h1 : PyData.bulkAll ds ≤ n := by simpa only [PyData.bulk] using h.bk
  have h2 := bulk_mem hz
  have h3 : (PyData.tuple es).bulk = PyData.bulkAll es := by simp only [PyData.bulk]
  have h4 := bulk_len es
  omega
theorem tup_fine {ds : List PyData} (h : ∀ e ∈ ds, Fine 300 44 e) (hl : ds.length ≤ 90) : Fine 30000 45 (.tuple ds) ∧ Wide (.tuple ds) :=
  ⟨(FineAll.of h).tup.mono (by have := Nat.mul_le_mul_left 301 hl; omega) (Nat.le_refl _), wide_all (by omega) h⟩
end Xci

namespace Xci
open PySem PySem.Spec PyProof.Rows L2
/-! what the program says of forms and of the forms of a table, for data of any kind -/
def wordB (z : Str) : Bool := (decide (1 ≤ z.length) && decide (z.length ≤ 8)) && z.cps.toList.all fun c => decide (97 ≤ c ∧ c ≤ 122)
theorem wordB_ok {z : Str} : wordB z = true ↔ WordOk z := by
  simp only [wordB, Bool.and_eq_true, decide_eq_true_eq, List.all_eq_true]
  exact ⟨fun h => ⟨h.1.1, h.1.2, h.2⟩, fun h => ⟨⟨h.lo, h.hi⟩, h.az⟩⟩
def formB : PyData → Bool
  | .str z => wordB z
  | _ => false
def noneB : PyData → Bool
  | .none => true
  | _ => false
def formOf : PyData → Option Str
  | .str z => some z
  | _ => none
def formD : Option Str → PyData
  | some z => .str z
  | none => .none
def toF (ds : List PyData) : List (Option Str) := ds.map formOf
def isFirst (fs : List (Option Str)) (i : Nat) : Bool := match fs[i]? with
  | some (some z) => decide (some z ∉ fs.take i)
  | _ => false
def firsts (fs : List (Option Str)) : List Nat := (List.range fs.length).filter (isFirst fs)
def formsB (n : Nat) : PyData → Bool
  | .tuple ds => decide (ds.length = n) && (ds.all (fun d => noneB d || formB d) && decide ((firsts (toF ds)).length ≤ 12))
  | _ => false
theorem isFirst_spec {fs : List (Option Str)} {i : Nat} (h : isFirst fs i = true) : ∃ z, fs[i]? = some (some z) ∧ some z ∉ fs.take i := by
  unfold isFirst at h
  split at h
  · next z e => exact ⟨z, e, of_decide_eq_true h⟩
  · cases h
theorem firsts_rise {fs : List (Option Str)} {zs : List Str} (r : Rising fs zs) : (firsts fs).length = zs.length := by
  let at_ : Nat → Str := fun i => (fs.getD i none).getD Str.empty
  have get : ∀ {i z}, fs[i]? = some (some z) → at_ i = z := fun {i z} e => by
    show (fs.getD i none).getD Str.empty = z
    rw [List.getD_eq_getElem?_getD, e]
    rfl
  have nd : ((firsts fs).map at_).Nodup := by
    have up : (firsts fs).Pairwise (· < ·) := List.Pairwise.filter _ List.pairwise_lt_range
    refine List.pairwise_map.mpr (List.Pairwise.imp_of_mem (fun {i j} hi hj lt e => ?_) up)
    obtain ⟨z, h1, _⟩ := isFirst_spec (List.mem_filter.mp hi).2
    obtain ⟨y, h3, h4⟩ := isFirst_spec (List.mem_filter.mp hj).2
    rw [get h1, get h3] at e
    subst e
    refine h4 (List.mem_of_getElem? (i := i) ?_)
    rw [List.getElem?_take, if_pos lt]
    exact h1
  have same : ∀ x, x ∈ (firsts fs).map at_ ↔ x ∈ zs := fun x => by
    rw [r.all x, List.mem_map]
    constructor
    · rintro ⟨i, hi, rfl⟩
      obtain ⟨z, h1, _⟩ := isFirst_spec (List.mem_filter.mp hi).2
      rw [get h1]
      exact List.mem_of_getElem? h1
    · intro hx
      obtain ⟨k, hk⟩ : ∃ k, some x ∈ fs.take k := ⟨fs.length, by rw [List.take_length]; exact hx⟩
      have wf : ∃ i, fs[i]? = some (some x) ∧ some x ∉ fs.take i := by
        induction k with
        | zero => simp at hk
        | succ k ih =>
          by_cases h : some x ∈ fs.take k
          · exact ih h
          · refine ⟨k, ?_, h⟩
            by_cases lt : k < fs.length
            · rw [List.take_succ, List.getElem?_eq_getElem lt, Option.toList_some, List.mem_append, List.mem_singleton] at hk
              rw [List.getElem?_eq_getElem lt, ← hk.resolve_left h]
            · rw [List.take_of_length_le (by omega)] at hk h
              exact absurd hk h
      obtain ⟨i, h1, h2⟩ := wf
      refine ⟨i, List.mem_filter.mpr ⟨List.mem_range.mpr (List.getElem?_eq_some_iff.mp h1).1, ?_⟩, get h1⟩
      unfold isFirst
      rw [h1]
      exact decide_eq_true h2
  have := (count_unlike nd same).2.mpr r.nd
  rwa [List.length_map] at this
theorem form_val {N : Out} {H : Hp} {v : V} {d : PyData} (h : Dt N H v d) (ok : (noneB d || formB d) = true) : v = formV (formOf d) ∧ d = formD (formOf d) ∧ ∀ z, formOf d = some z → WordOk z := by
  cases h with
  | non => exact ⟨rfl, rfl, fun z e => nomatch e⟩
  | str x => exact ⟨rfl, rfl, fun z e => by cases e; exact wordB_ok.mp ok⟩
  | _ => cases ok
theorem forms_val {N : Out} {H : Hp} : ∀ {vs : List V} {ds : List PyData}, DtAll N H vs ds → ds.all (fun d => noneB d || formB d) = true → vs = (toF ds).map formV ∧ ds = (toF ds).map formD ∧ ∀ z, some z ∈ toF ds → WordOk z
  | _, _, .nil, _ => ⟨rfl, rfl, fun z h => nomatch h⟩
  | _, _, .cons h r, ok => by
    rw [List.all_cons, Bool.and_eq_true] at ok
    obtain ⟨e1, e2, e3⟩ := form_val h ok.1
    obtain ⟨e4, e5, e6⟩ := forms_val r ok.2
    refine ⟨?_, ?_, fun z hz => ?_⟩
    · show _ = formV _ :: _
      rw [← e1]
      exact congrArg _ e4
    · show _ = formD _ :: _
      rw [← e2]
      exact congrArg _ e5
    · rcases List.mem_cons.mp hz with hz | hz
      · exact e3 z hz.symm
      · exact e6 z hz
theorem dt_form {N : Out} {H : Hp} : ∀ f : Option Str, Dt N H (formV f) (formD f)
  | some z => .str z
  | none => .non
theorem dt_forms {N : Out} {H : Hp} : ∀ fs : List (Option Str), DtAll N H (fs.map formV) (fs.map formD)
  | [] => .nil
  | f :: r => .cons (dt_form f) (dt_forms r)
theorem toF_formD : ∀ fs : List (Option Str), toF (fs.map formD) = fs
  | [] => rfl
  | some z :: r => congrArg (some z :: ·) (toF_formD r)
  | none :: r => congrArg (none :: ·) (toF_formD r)
theorem all_formD {fs : List (Option Str)} (h : ∀ z, some z ∈ fs → WordOk z) : (fs.map formD).all (fun d => noneB d || formB d) = true := by
  refine List.all_eq_true.mpr fun d hd => ?_
  obtain ⟨f, hf, rfl⟩ := List.mem_map.mp hd
  cases f with
  | none => rfl
  | some z => exact wordB_ok.mpr (h z hf)
/-- the right ones are forms of a table -/
theorem formsB_spec {n : Nat} {d : PyData} (few : n ≤ 24) (h : formsB n d = true) : ∃ fs : List (Option Str), d = .tuple (fs.map formD) ∧ FormsOk n fs := by
  cases d with
  | tuple ds =>
    simp only [formsB, Bool.and_eq_true, decide_eq_true_eq] at h
    obtain ⟨h1, h2, h3⟩ := h
    have e : ds = (toF ds).map formD := by
      clear h1 h3
      induction ds with
      | nil => rfl
      | cons d r ih =>
        rw [List.all_cons, Bool.and_eq_true] at h2
        have e1 : d = formD (formOf d) := by
          cases d <;> first | rfl | exact (nomatch (show (false : Bool) = true from h2.1))
        show _ = formD _ :: _
        rw [← e1]
        exact congrArg _ (ih h2.2)
    refine ⟨toF ds, by rw [← e], by simpa [toF] using h1, few, fun z hz => ?_, fun zs r => by rw [← firsts_rise r]; exact h3⟩
    obtain ⟨d, hd, ez⟩ := List.mem_map.mp hz
    have := List.all_eq_true.mp h2 d hd
    cases d with
    | str x =>
      cases ez
      exact wordB_ok.mp this
    | _ => cases ez
  | _ => cases h
theorem formsB_of {n : Nat} {fs : List (Option Str)} (len : fs.length = n) (h : ∀ z, some z ∈ fs → WordOk z) : formsB n (.tuple (fs.map formD)) = decide ((firsts fs).length ≤ 12) := by
  simp only [formsB, List.length_map, len, all_formD h, toF_formD, decide_true, Bool.true_and]
theorem formsB_ok {n : Nat} {fs : List (Option Str)} (h : FormsOk n fs) {zs : List Str} (r : Rising fs zs) : formsB n (.tuple (fs.map formD)) = true := by
  rw [formsB_of h.len h.word, firsts_rise r]
  exact decide_eq_true (h.unlike zs r)
/-! repr of data of any kind -/
def rRepA : List V → Hp → VK → Prop := fun xs H Q => ∃ (a : Out) (v : V) (d : PyData), xs = [v] ∧ Dt a H v d ∧ Fine 390000 60 d ∧ Q (.str d.shown) H
theorem call_repA {X : Cx} (hS : ∃ o, X.base.get? sysModules = some o) (hg : X.A.guards = some []) (hu : X.A.units + 64 < cLine) : CallR X (.builtin "repr") rRepA := by
  intro pins s σ H xs us Q I rv h
  obtain ⟨a, v, d, rfl, hd, hf, q⟩ := h
  have go : ∀ p : Addr, v = .ref p → _ := fun p e => call_rep hS hg hu pins s σ H [v] us Q I rv ⟨a, p, d, by rw [e], e ▸ hd, hf, q⟩
  cases rv with
  | cons r rs =>
    cases rs
    have size := hf.fits (Nat.le_refl _)
    have fresh : Inv X pins σ H { s with toks := s.toks + 1 } := I.kept (t' := s.toks + 1) (h' := s.heap) fun _ _ e => e
    cases hd with
    | non => cases r; exact PySem.P.repr_of_none ⟨.str _, H, fresh, ⟨_, rfl⟩, q⟩
    | bl b => cases r; exact PySem.P.repr_of_bool ⟨.str _, H, fresh, ⟨_, rfl⟩, by cases b <;> exact q⟩
    | int i =>
      obtain ⟨t, e⟩ := (show ∃ t, _ = Value.int i t from r)
      subst e
      exact PySem.P.repr_of_int (of_decide_eq_true hf.sh) ⟨.str _, H, fresh, ⟨_, rfl⟩, q⟩
    | str x =>
      obtain ⟨t, e⟩ := (show ∃ t, _ = Value.str x t from r)
      subst e
      exact PySem.P.repr_of_str ⟨.str _, H, fresh, ⟨_, rfl⟩, q⟩ size
    | lst _ _ _ => exact go _ rfl
    | tup _ _ _ => exact go _ rfl
    | dic _ _ _ => exact go _ rfl
end Xci

namespace Xci
open PySem PySem.Spec PyProof.Rows L2
/-! == by the own __eq__ of the left side's class, whatever stands on the right and whatever it answers -/
def rEqX (K : PySem.W.Frag) (C : Addr) (sp : Sp) : R2 := fun x y H Q => ∃ (a dx : Addr) (fs : List (Str × V)) (T : Value), x = .ref a ∧ H a = some (.ins C dx fs) ∧ TyX K H y T ∧ PySem.W.notFirst K C T = true ∧
  sp [x, y] H (fun v H' => (∃ b, v = .bl b) ∧ Q v H') fun _ _ _ => False
/-- the own == of a class, as its users see it -/
structure HasEX (P : Program) (w : World) (K : PySem.W.Frag) (mg : Str → Option Value) (base : Heap) (C : Addr) (k : Nat) (sp : Sp) : Prop where
  ex : ∃ (f : Addr) (fd : FuncData), FnOk P w K mg base CX0 k f fd ["self", "other"] sp ∧ PySem.W.findIn K (.ref C) "__eq__" = some (some (.ref f)) ∧ PySem.W.isFn K (.ref f) = true ∧ Binds K fd ["self", "other"] []
theorem op_eqX {X : Cx} {C : Addr} {k : Nat} {sp : Sp} (h : HasEX X.prog X.w X.K X.mg X.base C k sp) (hr : Room k X.A) : OpR X (compareOp .Eq) (rEqX X.K C sp) := by
  obtain ⟨f, fd, F, found, isf, hb⟩ := h.ex
  intro pins s σ H x y v u Q I rx ry hq
  obtain ⟨a, dx, fs, T, rfl, ha, ty, nf, told⟩ := hq
  cases rx
  obtain ⟨mA, J, _⟩ := ins_get I.hok ha
  obtain ⟨od, J, _⟩ := J.look
  obtain ⟨m, hF⟩ := I.fr
  obtain ⟨φ, kit, holds, _⟩ := kit_of I ry ty
  show wpAny (model X.prog X.w) X.A (richCompare .Eq (.ref a) u) (EP X pins σ Q) X.xe s
  refine PySem.W.cmp_K (op := .Eq) (tb := T) hr.units0 hF I.ok.mod.kin J (kit.ty _ _ I.kIn holds) nf found isf ?_
  have e0 : Env0 X.prog X.w X.K X.mg X.base X.A X.stack s H := I.env0
  have two : Vals [V.ref a, y] [Value.ref a, u] := .cons rfl (.cons ry .nil)
  refine wpAny_call (codeAny_mono (F.run X.A X.stack s H ⟨[.ref a, u], []⟩ [.ref a, u] [.ref a, y] _ _ hr e0 (by
    have z := hb s [.ref a, u] I.kIn rfl
    simpa using z) two told) fun r s' z => ?_)
  match r, z with
  | .error _, z => exact False.elim z
  | .ok (.ret w), z =>
    obtain ⟨t, H', I', rt, ⟨⟨b, eb⟩, q⟩⟩ := I.after z
    subst eb
    cases rt
    exact ⟨.bl b, H', I', rfl, q⟩
  | .ok .next, z => exact False.elim z
  | .ok .brk, z => exact False.elim z
  | .ok .cont, z => exact False.elim z
/-- what is of another type is no instance of an own class -/
theorem kit_not {K : PySem.W.Frag} {t : Value} {C : Addr} (h1 : PySem.W.isClsIn K C = true) (h2 : PySem.W.typeIn K (.ref C) = some (.type "type")) (h3 : PySem.W.subIn K t (.ref C) = some false) (h4 : (t == Value.ref C) = false) : PySem.W.kitOne K t (.ref C) = some false := by
  unfold PySem.W.kitOne
  rw [if_neg (by rw [h4]; exact Bool.false_ne_true)]
  have q : ((PySem.W.clsIn K C).isSome && PySem.W.typeIn K (.ref C) == some (.type "type")) = true := by
    rw [show (PySem.W.clsIn K C).isSome = true from h1, h2] <;> rfl
  show (if _ then _ else _) = _
  rw [if_pos q]
  exact h3
end Xci

namespace Xci
open PySem PySem.Spec PyProof.Rows L2
/-! list.count of flat values; isinstance of the caught error, whichever class flew; comprehensions with two generators -/
def rCntF (K : PySem.W.Frag) : V → List V → Hp → VK → Prop := fun x xs H Q => ∃ (p : Addr) (ys : List V) (y : V), x = .ref p ∧ xs = [y] ∧ SqL K H p ys ∧ flatV y = true ∧ ys.all flatV = true ∧ Q (.int ((ys.countP fun z => eqV z y) : Nat)) H
theorem count_eqU {y : V} : ∀ {ys : List V} {us : List Value}, Vals ys us → ys.all flatV = true → us.countP (eqU y) = ys.countP fun z => eqV z y
  | _, _, .nil, _ => rfl
  | _, _, .cons r rs, f => by
    rw [List.all_cons, Bool.and_eq_true] at f
    rw [List.countP_cons, List.countP_cons, eqU_of r f.1, count_eqU rs f.2]
theorem mt_countF {X : Cx} : MtR X "list.count" (rCntF X.K) := by
  intro pins s σ H x xs v us Q I rx rxs h
  obtain ⟨p, ys, y, rfl, rfl, sq, fy, fys, q⟩ := h
  cases rx
  obtain ⟨u, rfl, ru⟩ := rxs.one
  obtain ⟨its, rv, ⟨⟨cls, dd, data, sl⟩, n, at_, kind, hdn, datum⟩, hlen⟩ := I.list sq
  simp only at kind datum
  subst kind datum
  have told := count_eqU (y := y) rv fys
  have body := SeqAt.list_countAt p its.toArray n dd sl u (eqU y)
  refine call_meets PySem.F.slot_list_count ⟨_, at_, rfl⟩ PySem.F.entry_list_count (PySem.F.args_list_count_2 _ _) body ⟨at_, fun w hw => mem_eqAt ru fy rv fys w (by simpa using hw), .int _, H, I.tok _, ⟨s.toks, ?_⟩, q⟩
  show Value.int ((its.countP (eqU y) : Nat) : Int) s.toks = _
  rw [told]
def rIsEx (K : PySem.W.Frag) (cls : Value) (d : Option Addr) (a : Addr) : List V → Hp → VK → Prop := fun xs H Q => ∃ D : Addr, ExcC K D ∧ cls = .ref D ∧ d = none ∧ rIsE K D a xs H Q
theorem call_isEx {X : Cx} {a : Addr} {cls : Value} {d : Option Addr} {oe : Obj} {pn : List (Addr × Obj)} (hz : Zc cls d oe) (hf : ∃ vs, oe.data = .fields vs) : CallR (X.suite a ((a, oe) :: pn)) (.builtin "isinstance") (rIsEx X.K cls d a) := by
  intro pins s σ H xs us Q I r h
  obtain ⟨D, ex, rfl, rfl, h⟩ := h
  exact call_isE ex hz hf pins s σ H xs us Q I r h
section
variable {J J1 : It} {n n1 : Nat} {G G1 : Hp → Prop} {Y Y1 : Nat → Hp → V → Hp → Prop} {Qd Nx : Hp → Prop} {D : Addr}
/-- the walk of a comprehension's generator, its turn left open -/
theorem turns (w : Walk J n G Y) (Pv : Nat → Hp → Prop) (T : (Hp → Prop) → V → Hp → Prop) {H1 : Hp} (h0 : Pv 0 H1) (hG : ∀ i H, i ≤ n → Pv i H → G H)
    (hs : ∀ i x H H', i < n → Pv i H → Y i H x H' → T (Pv (i + 1)) x H') (hd : ∀ H, Pv n H → Qd H) :
    ∃ W : Nat → Nat → Hp → Prop, (∃ m, W 0 m H1) ∧ ∀ i m H, W i m H → (J.stop i H ∧ Qd H) ∨ (J.go i H ∧ ∃ Nx : Hp → Prop, (∀ H', Nx H' → ∃ m', m' < m ∧ W (i + 1) m' H') ∧ ∀ x H', J.yld i H x H' → T Nx x H') := by
  refine ⟨fun i m H => m + i = n ∧ Pv i H, ⟨n, rfl, h0⟩, fun i m H ⟨e, p⟩ => ?_⟩
  have at_ := hG i H (by omega) p
  rcases Nat.lt_or_ge i n with lt | ge
  · exact .inr ⟨w.goes i H lt at_, _, fun H' p' => ⟨m - 1, by omega, by omega, p'⟩, fun x H' y => hs i x H H' lt p (w.yields i H x H' lt at_ y)⟩
  · have all : i = n := by omega
    rw [all] at p ⊢
    exact .inl ⟨w.stops H (hG n H (Nat.le_refl _) p), hd H p⟩
end
end Xci

namespace Xci
open PySem PySem.Spec PyProof.Rows L2
/-! isinstance of the caught error, with fields or without, whichever class flew -/
def rIsExD (K : PySem.W.Frag) (cls : Value) (d : Option Addr) (a : Addr) : List V → Hp → VK → Prop := fun xs H Q => ∃ D : Addr, ExcC K D ∧ cls = .ref D ∧ (∀ dd, d = some dd → ∃ fs, H dd = some (.xd fs)) ∧ rIsE K D a xs H Q
theorem call_isExD {X : Cx} {a : Addr} {cls : Value} {d : Option Addr} {oe : Obj} {pn : List (Addr × Obj)} (hz : Zc cls d oe) (hf : ∃ vs, oe.data = .fields vs) : CallR (X.suite a ((a, oe) :: pn)) (.builtin "isinstance") (rIsExD X.K cls d a) := by
  intro pins s σ H xs us Q I r h
  obtain ⟨D, C, rfl, fields, c, cv, b, rfl, hcv, e, q⟩ := h
  obtain ⟨ut, eus, rt⟩ : ∃ ut, us = [.ref a, ut] ∧ L2.RelV c ut := by
    cases r with
    | cons rx rest => cases rest with | cons r1 r2 => cases r2; cases rx; exact ⟨_, rfl, r1⟩
  · subst eus
    obtain rfl := hcv _ rt
    obtain ⟨at_, _⟩ := I.pin (a, oe) (List.mem_append.mpr (.inl List.mem_cons_self))
    obtain ⟨od, J⟩ : ∃ od, PySem.W.InstAt s.heap a oe D od := by
      have noCls : PySem.W.notCls oe := by
        obtain ⟨vs, hv⟩ := hf
        unfold PySem.W.notCls
        rw [hv] <;> trivial
      cases hd : d with
      | none => exact ⟨none, at_, hz.1, noCls, by rw [hz.2, hd] <;> trivial⟩
      | some dd =>
        obtain ⟨fs, hx⟩ := fields dd hd
        obtain ⟨mA, hns, _⟩ := (show ObjOk _ _ H s.heap dd (.xd fs) from I.hok dd _ hx)
        obtain ⟨od, ho, _⟩ := lookIn_ns hns
        exact ⟨some od, at_, hz.1, noCls, by rw [hz.2, hd]; exact ho⟩
    have is : (PySem.W.clsIn X.K D).isSome = true := by
      have z := C.hd
      unfold PySem.W.hasDictIn at z
      obtain ⟨cd, hc, _⟩ := PySem.W.any_some z
      rw [hc] <;> rfl
    exact PySem.W.kia_one (PySem.W.kitx_exc is C.hg C.hk C.hs C.ha C.hn C.ht C.hm) I.kIn J e nofun fun tk => ⟨.bl b, H, I.kept (t' := tk) fun _ _ z => z, rfl, q⟩
end Xci

namespace Xci
open PySem PySem.Spec PyProof.Rows L2
/-! written data in which names of known value stand -/
def tLitP (p : L2.St → Prop) (N : Out) (d : PyData) : TE := fun σ H Q => p σ ∧ Used N H ∧ ∀ v H', Same H H' → Dt N H' v d → Q v H'
def tLitsP (p : L2.St → Prop) (N : Out) (ds : List PyData) : TA := fun σ H Q => p σ ∧ Used N H ∧ ∀ vs H', Same H H' → DtAll N H' vs ds → Q vs H'
/-- the name in slot i is the whole number n -/
abbrev Slot (i : Nat) (n : Int) : L2.St → Prop := fun σ => σ[i]? = some (some (.int n))
section
variable {X : Cx} {N : Out} {e : Expr} {es : List Expr} {d : PyData} {ds : List PyData} {pos : Pos} {p : L2.St → Prop}
theorem litp_of (h : PE X e (tLit N d)) : PE X e (tLitP p N d) := PE.weak h fun σ H Q q => q.2
theorem litp_var {i : Nat} {n : Int} (h : PE X e (tVar i)) : PE X e (tLitP (Slot i n) N (.int n)) := PE.weak h fun σ H Q q => ⟨_, q.1, q.2.2 _ H (Same.refl H) (.int n)⟩
theorem litsp_nil : PA X [] (tLitsP p N []) := PA.weak pa_nil fun σ H Q q => q.2.2 [] H (Same.refl H) .nil
theorem litsp_cons (h : PE X e (tLitP p N d)) (r : PA X es (tLitsP p N ds)) (hs : starEach (e :: es) X.env = (false, eval e X.env) :: starEach es X.env := by rfl) : PA X (e :: es) (tLitsP p N (d :: ds)) :=
  PA.weak (pa_cons h r hs) fun σ H Q q => ⟨q.1, q.2.1, fun v H1 s1 dv => ⟨q.1, q.2.1.same s1, fun vs H2 s2 rs => q.2.2 (v :: vs) H2 (s1.trans s2) (.cons (dv.fr (FrO.same s2)) rs)⟩⟩
theorem litp_tup {x1} (h : PA X es (tLitsP p N ds)) (hl : ds.length ≤ 1000) : PE X (.Tuple es x1 pos) (tLitP p N (.tuple ds)) := PE.weak (pe_tup h) fun σ H Q q => ⟨q.1, q.2.1, fun vs H1 s1 r =>
  ⟨by rw [r.len]; exact Nat.le_of_lt (small1000 hl), fun t np => q.2.2 _ _ (s1.trans (Same.new np)) (.tup ((q.2.1.same s1).new np) upd_same (r.fr (FrO.same (Same.new np))))⟩⟩
theorem litp_lst (h : PA X es (tLitsP p N ds)) (hl : ds.length ≤ 1000) : PE X (.List es pos) (tLitP p N (.list ds)) := PE.weak (pe_lst h) fun σ H Q q => ⟨q.1, q.2.1, fun vs H1 s1 r =>
  ⟨by rw [r.len]; exact Nat.le_of_lt (small1000 hl), fun t np => q.2.2 _ _ (s1.trans (Same.new np)) (.lst ((q.2.1.same s1).new np) upd_same (r.fr (FrO.same (Same.new np))))⟩⟩
/-- a display whose first things are written and whose last is not -/
def tLitsAnd (N : Out) (ds : List PyData) (t : TE) : TA := fun σ H Q => Used N H ∧ ∀ vs H', Same H H' → DtAll N H' vs ds → t σ H' fun v H2 => Q (vs ++ [v]) H2
theorem litand_one {t : TE} (h : PE X e t) (hs : starEach [e] X.env = (false, eval e X.env) :: starEach [] X.env := by rfl) : PA X [e] (tLitsAnd N [] t) := PA.weak (pa_cons h pa_nil hs) fun σ H Q q => q.2 [] H (Same.refl H) .nil
theorem litand_cons {t : TE} (h : PE X e (tLit N d)) (r : PA X es (tLitsAnd N ds t)) (hs : starEach (e :: es) X.env = (false, eval e X.env) :: starEach es X.env := by rfl) : PA X (e :: es) (tLitsAnd N (d :: ds) t) :=
  PA.weak (pa_cons h r hs) fun σ H Q q => ⟨q.1, fun v H1 s1 dv => ⟨q.1.same s1, fun vs H2 s2 rs => q.2 (v :: vs) H2 (s1.trans s2) (.cons (dv.fr (FrO.same s2)) rs)⟩⟩
end
theorem ok_eitherX {CX : CXT} {P : Program} {w : World} {K : PySem.W.Frag} {mg : Str → Option Value} {base : Heap} {f : Addr} {fd : FuncData} {ps : List Str} {k : Nat} {sp sp' : Sp} (g : FnOk P w K mg base CX k f fd ps sp) (g' : FnOk P w K mg base CX k f fd ps sp') : FnOk P w K mg base CX k f fd ps (fun vs H Q E => sp vs H Q E ∨ sp' vs H Q E) :=
  ⟨fun vs H Q E h => h.elim (g.len vs H Q E) (g'.len vs H Q E), fun A outer s H args us vs Q E hr he hb hv hs => hs.elim (fun h => g.run A outer s H args us vs Q E hr he hb hv h) (fun h => g'.run A outer s H args us vs Q E hr he hb hv h)⟩
end Xci

namespace Xci
open PySem PySem.Spec PyProof.Rows L2
/-! written data, all of it new: whatever is kept out, none of its objects is -/
def New (H H' : Hp) (v : V) (d : PyData) : Prop := ∀ N : Out, Used N H → Dt N H' v d
def NewAll (H H' : Hp) (vs : List V) (ds : List PyData) : Prop := ∀ N : Out, Used N H → DtAll N H' vs ds
def tFl (d : PyData) : TE := fun _ H Q => ∀ v H', Same H H' → New H H' v d → Q v H'
def tFls (ds : List PyData) : TA := fun _ H Q => ∀ vs H', Same H H' → NewAll H H' vs ds → Q vs H'
section
variable {X : Cx} {e : Expr} {es : List Expr} {d : PyData} {ds : List PyData} {pos : Pos}
theorem fl_c {t : TE} {v : V} (h : PE X e t) (ht : t = tC v) (hd : ∀ N H, Dt N H v d) : PE X e (tFl d) := PE.weak h fun σ H Q q => by
  rw [ht]
  exact q v H (Same.refl H) fun N _ => hd N H
theorem fl_non {j : Nat} {p : Pos} : PE X (.Constant .none j p) (tFl .none) := fl_c pe_non rfl fun _ _ => .non
theorem fl_bl {b : Bool} {j : Nat} {p : Pos} : PE X (.Constant (.bool b) j p) (tFl (.bool b)) := fl_c pe_bl rfl fun _ _ => .bl b
theorem fl_int {i : Int} {j : Nat} {p : Pos} : PE X (.Constant (.int i) j p) (tFl (.int i)) := fl_c pe_int rfl fun _ _ => .int i
theorem fl_str {x : Str} {j : Nat} {p : Pos} : PE X (.Constant (.str x) j p) (tFl (.str x)) := fl_c pe_str rfl fun _ _ => .str x
theorem fl_neg {i : Int} {j : Nat} {p p2 : Pos} : PE X (.UnaryOp .USub (.Constant (.int i) j p) p2) (tFl (.int (-i))) := PE.weak (pe_un un_neg pe_int) fun σ H Q q => ⟨i, rfl, q _ H (Same.refl H) fun _ _ => .int _⟩
theorem fl_pow {i k : Int} {j j2 : Nat} {p p2 p3 : Pos} (h : 0 ≤ k ∧ k ≤ 1000000 ∧ i.natAbs < 2 ^ 64) : PE X (.BinOp (.Constant (.int i) j p) .Pow (.Constant (.int k) j2 p2) p3) (tFl (.int (i ^ k.toNat))) :=
  PE.weak (pe_op op_pow pe_int pe_int) fun σ H Q q => ⟨i, k, rfl, rfl, h, q _ H (Same.refl H) fun _ _ => .int _⟩
theorem fls_nil : PA X [] (tFls []) := PA.weak pa_nil fun σ H Q q => q [] H (Same.refl H) fun _ _ => .nil
theorem fls_cons (h : PE X e (tFl d)) (r : PA X es (tFls ds)) (hs : starEach (e :: es) X.env = (false, eval e X.env) :: starEach es X.env := by rfl) : PA X (e :: es) (tFls (d :: ds)) :=
  PA.weak (pa_cons h r hs) fun σ H Q q v H1 s1 dv vs H2 s2 rs => q (v :: vs) H2 (s1.trans s2) fun N u => .cons ((dv N u).fr (FrO.same s2)) (rs N (u.same s1))
theorem fl_tup {x1} (h : PA X es (tFls ds)) (hl : ds.length ≤ 1000) : PE X (.Tuple es x1 pos) (tFl (.tuple ds)) := PE.weak (pe_tup h) fun σ H Q q vs H1 s1 r =>
  ⟨by rw [(r (fun _ => False) fun _ z => z.elim).len]; exact Nat.le_of_lt (small1000 hl), fun t np => q _ _ (s1.trans (Same.new np)) fun N u => .tup ((u.same s1).new np) upd_same ((r N u).fr (FrO.same (Same.new np)))⟩
theorem fl_lst (h : PA X es (tFls ds)) (hl : ds.length ≤ 1000) : PE X (.List es pos) (tFl (.list ds)) := PE.weak (pe_lst h) fun σ H Q q vs H1 s1 r =>
  ⟨by rw [(r (fun _ => False) fun _ z => z.elim).len]; exact Nat.le_of_lt (small1000 hl), fun t np => q _ _ (s1.trans (Same.new np)) fun N u => .lst ((u.same s1).new np) upd_same ((r N u).fr (FrO.same (Same.new np)))⟩
theorem fl_dict0 : PE X (.Dict [] [] pos) (tFl (.dict [])) := PE.weak pe_dnewK fun σ H Q q p np => q _ _ (Same.new np) fun N u => .dic (kvs := []) (ds := []) (u.new np) upd_same .nil
end
end Xci

namespace Xci
open PySem PySem.Spec PyProof.Rows L2
/-! sorted(a list of data): whole numbers, texts, tuples of these, one within another -/
section
variable {X : Cx} {pins : List (Addr × Obj)} {σ : L2.St} {H : Hp} {s : Shared}
mutual
theorem Dt.readA (I : Inv X pins σ H s) {a : Out} : ∀ {v : V} {d : PyData} {u : Value}, Dt a H v d → L2.RelV v u → ∃ as, Reads s.heap u d as
  | _, _, _, .non, r => by cases r; exact ⟨[], Reads.none⟩
  | _, _, _, .bl b, r => by cases r; exact ⟨[], Reads.bool b⟩
  | _, _, _, .int i, r => by obtain ⟨t, rfl⟩ := r; exact ⟨[], Reads.int i t⟩
  | _, _, _, .str x, r => by obtain ⟨t, rfl⟩ := r; exact ⟨[], Reads.str x t⟩
  | _, _, _, .lst n h rs, r => by
    cases r
    obtain ⟨_, its, nn, rv, ho⟩ := I.hok _ _ h
    obtain ⟨as, hr⟩ := DtAll.readA I rs rv
    exact ⟨_, Reads.list ho rfl rfl hr⟩
  | _, _, _, .tup n h rs, r => by
    cases r
    obtain ⟨_, its, rv, o, ho, hc, nn, hd⟩ := I.hok _ _ h
    obtain ⟨as, hr⟩ := DtAll.readA I rs rv
    exact ⟨_, Reads.tuple ho hc hd hr⟩
  | _, _, _, .dic (p := p) (kvs := kvs) (ds := ds) n h rs, r => by
    cases r
    obtain ⟨_, _, us, hkv, o, es, ep, ho, hx, hd, _, hp, _⟩ := I.hok _ _ h
    obtain ⟨q1, q2⟩ := keys_read (h := s.heap) hkv hp
    obtain ⟨as, hr⟩ := DtAll.readA I rs q2
    have hl : (kvs.map fun q => keyD q.1).length = ds.length := by rw [← DtAll.len rs, List.length_map, List.length_map]
    exact ⟨_, Reads.dict ho hx.1 hd (by rw [List.map_fst_zip (by omega)]; exact q1) (by rw [List.map_snd_zip (by omega)]; exact hr)⟩
theorem DtAll.readA (I : Inv X pins σ H s) {a : Out} : ∀ {vs : List V} {ds : List PyData} {us : List Value}, DtAll a H vs ds → Vals vs us → ∃ as, ReadsAll s.heap us ds as
  | _, _, _, .nil, .nil => ⟨[], .nil⟩
  | _, _, _, .cons h hs, .cons r rs => by
    obtain ⟨as, q1⟩ := Dt.readA I h r
    obtain ⟨bs, q2⟩ := DtAll.readA I hs rs
    exact ⟨_, .cons q1 q2⟩
end
theorem each_read (I : Inv X pins σ H s) {a : Out} : ∀ {vs : List V} {ds : List PyData} {us : List Value}, DtAll a H vs ds → Vals vs us →
    PySem.W.EachIs (fun (u : Value) (b : V × PyData) => L2.RelV b.1 u) us (vs.zip ds) ∧ PySem.W.EachIs (fun (u : Value) (b : V × PyData) => ∃ as, Reads s.heap u b.2 as) us (vs.zip ds)
  | _, _, _, .nil, .nil => ⟨.nil, .nil⟩
  | _, _, _, .cons h hs, .cons r rs => by
    obtain ⟨q1, q2⟩ := each_read I hs rs
    exact ⟨.cons r q1, .cons (Dt.readA I h r) q2⟩
theorem each_vals : ∀ {us : List Value} {bs : List (V × PyData)}, PySem.W.EachIs (fun (u : Value) (b : V × PyData) => L2.RelV b.1 u) us bs → Vals (bs.map Prod.fst) us
  | _, _, .nil => .nil
  | _, _, .cons h r => .cons h (each_vals r)
end
/-- the things in order, by what they are as data -/
def sortV (xs : List V) (ds : List PyData) : List V := ((xs.zip ds).mergeSort (PySem.W.dataLe false Prod.snd)).map Prod.fst
theorem sortV_perm {xs : List V} {ds : List PyData} (h : xs.length = ds.length) : (sortV xs ds).Perm xs := by
  have q := (List.mergeSort_perm (xs.zip ds) (PySem.W.dataLe false Prod.snd)).map Prod.fst
  rw [List.map_fst_zip (by omega)] at q
  exact q
def rSortedD (K : PySem.W.Frag) : List V → Hp → VK → Prop := fun vs H Q => ∃ (a : Addr) (xs : List V) (N : Out) (ds : List PyData), vs = [.ref a] ∧ SqL K H a xs ∧ DtAll N H xs ds ∧ PySem.W.AllAlike ds ∧ PySem.W.Sortable ds ∧ (∀ d ∈ ds, d.depth ≤ 60) ∧
  ∀ p, H p = none → Q (.ref p) (upd H p (.lst (sortV xs ds)))
theorem cr_sortedD {X : Cx} (room : X.A.units + 64 < cLine) : CallR X (.builtin "sorted") (rSortedD X.K) := by
  intro pins s σ H vs us Q I r h
  obtain ⟨a, xs, N, ds, rfl, hs, rd, hal, hk, deep, q⟩ := h
  obtain ⟨its, rv, hl, hz⟩ := I.list hs
  rw [Vals.ref1 r]
  obtain ⟨e1, e2⟩ := each_read I rd rv
  have len : xs.length = ds.length := rd.len
  have snd : (xs.zip ds).map Prod.snd = ds := List.map_snd_zip (by omega)
  refine PySem.W.sorted_data (enc := Prod.snd) hl.isList e1 e2 (by rw [snd]; exact hal) (by rw [snd]; exact hk) (by rw [List.length_zip]; omega) (fun b hb => ?_) fun out h1 h2 => ?_
  · have m : b.2 ∈ ds := by rw [← snd]; exact List.mem_map.mpr ⟨b, hb, rfl⟩
    have := deep _ m
    have e : X.A.in1.units = X.A.units + 1 := rfl
    omega
  · obtain ⟨n, hn⟩ := sortedAll_at s.heap its out.toArray
    have perm := sortV_perm len
    exact ⟨.ref _, upd H (s.heap.objs.size + 1) (.lst (sortV xs ds)), I.laid (t' := s.toks) (fun _ _ => sortedAll_old) (Nat.le_succ _) ⟨by rw [perm.length_eq]; exact hz, out, n, each_vals h2, hn⟩, rfl, q _ (I.hok.fresh (Nat.le_succ _))⟩
theorem FnOk.lift {CX : CXT} {P : Program} {w : World} {K : PySem.W.Frag} {mg : Str → Option Value} {base : Heap} {f : Addr} {fd : FuncData} {ps : List Str} {k : Nat} {sp : Sp} (F : FnOk P w K mg base CX0 k f fd ps sp) : FnOk P w K mg base CX k f fd ps sp :=
  ⟨F.len, fun A outer s H args us vs Q E hr he hb hv hs => codeAny_mono (F.run A outer s H args us vs Q E hr he hb hv hs) fun r s' z => by
    cases r with
    | error e => exact z.elim
    | ok u => cases u <;> exact z⟩
end Xci

set_option maxHeartbeats 4000000
namespace Xci
open PySem PySem.Spec PyProof.Rows L2
theorem tuple_once (l : Addr) (items : Array Value) (n : Nat) (dd : Option Addr) (sl : Array (Option Value)) (u : Tok) :
    Meets (Builtin.«tuple.__mul__» ⟨[.ref l, .int 1 u], []⟩) (fun _ R s => s.heap.get? l = some { cls := .type "tuple", dict := dd, data := .seq items n, slots := sl } ∧ R (.ok (.ret (Value.ref l))) s) :=
  .of_wp fun prog w A R s h => by
    obtain ⟨hp, g, d, tk, os⟩ := s
    obtain ⟨hl, h⟩ := h
    have f1 := AutoSeq1.idx_int
    wp_walk using wpAny_loadPart' hl
    exact ⟨_, rfl, h⟩
/-- t * k of a tuple with things in it -/
def rRepN (K : PySem.W.Frag) : R2 := fun x y H Q => ∃ l k xs, x = .ref l ∧ y = .int k ∧ SqT K H l xs ∧ xs ≠ [] ∧ 1 ≤ k ∧ k ≤ 1000 ∧ xs.length ≤ 1000 ∧ (k = 1 → Q (.ref l) H) ∧ (2 ≤ k → ∀ p, H p = Option.none → Q (.ref p) (upd H p (.tup (List.replicate k.toNat xs).flatten)))
theorem op_repN {X : Cx} : OpR X (binaryOp .Mult) (rRepN X.K) := by
  intro pins s σ H x y v u Q I rx ry h
  obtain ⟨l, k, xs, rfl, rfl, hT, hne, h1, h2, hz, q1, q2⟩ := h
  by_cases hk : k = 1
  · subst hk
    cases rx
    obtain ⟨t, rfl⟩ := ry
    obtain ⟨its, r, ⟨⟨cls, dd, data, sl⟩, ho, hc, n, hd⟩, hs⟩ := I.tuple hT
    simp only at hc hd
    subst hc hd
    refine wpAny_binaryOp_repeat_ref (T := "tuple") (U := "int") (by decide) ⟨_, ho, rfl⟩ (fun s' => typeIs_int s' 1 t) noFill_tuple_mul F.fills_int_mul F.slot_int_rmul repeat_tuple F.slot_int_index.lookup
      (call_meets F.slot_int_rmul (typeIs_int s 1 t) F.entry_int_rmul (F.args_int_rmul_2 _ _) (int_rmul_tuple 1 t l its.toArray n dd sl)
        ⟨ho, rfl, ⟨_, ho, rfl⟩, call_meets F.slot_tuple_mul ⟨_, ho, rfl⟩ F.entry_tuple_mul (F.args_tuple_mul_2 _ _) (tuple_once l its.toArray n dd sl t) ⟨ho, ?_⟩⟩)
    exact ⟨.ref l, H, I, rfl, q1 rfl⟩
  · exact op_repT pins s σ H _ _ v u Q I rx ry ⟨l, k, xs, rfl, rfl, hT, hne, by omega, h2, hz, q2 (by omega)⟩
theorem rep_one (x : V) (k : Nat) : (List.replicate k [x]).flatten = List.replicate k x := by
  induction k with
  | zero => rfl
  | succ k ih => rw [List.replicate_succ, List.flatten_cons, ih, List.replicate_succ]; rfl
end Xci

namespace Xci
open PySem PySem.Spec PyProof.Rows L2
/-! a law's own def that calls repr: it is promised for the law's call alone, where no repr runs already -/
/-- what a call at f does where nothing is being shown -/
structure FnG (P : Program) (w : World) (K : PySem.W.Frag) (mg : Str → Option Value) (base : Heap) (k : Nat) (f : Addr) (fd : FuncData) (ps : List Str) (sp : Sp) : Prop where
  arity : ∀ vs H Q E, sp vs H Q E → vs.length = ps.length
  call : ∀ (A : Around) (outer : List Env) (s : Shared) (H : Hp) (args : Args) (us : List Value) (vs : List V) (Q : VK) (E : XK), A.guards = some [] → Room k A → Env0 P w K mg base A outer s H → BindsTo s fd args (ps.zip us) → Vals vs us →
    sp vs H Q E → codeAny (model P w) A (.call (.ref f) args) (CR CX0 outer P w H s Q E) s
section
variable {P : Program} {w : World} {K : PySem.W.Frag} {mg : Str → Option Value} {base : Heap}
theorem okG {x qual : Str} {st : Stmt} {f : Addr} {fd : FuncData} {N ps : List Str} {k : Nat} {sp : Sp} (F : Fun K x qual st f fd) (S : FnScope N ps (defScope st)) (ar : ∀ vs H Q E, sp vs H Q E → vs.length = ps.length)
    (body : ∀ (cdv : Value) (A : Around) (outer : List Env) (s : Shared) (H : Hp) (vs : List V) (Q : VK) (E : XK), (cxOf CX0 P w K mg base N qual (defScope st) f cdv A outer s H E).nox.A.guards = some [] → Room k (A.deeper (envOfC qual (defScope st) s.heap.objs.size f cdv)) → sp vs H Q E →
      ∃ t, PSs (cxOf CX0 P w K mg base N qual (defScope st) f cdv A outer s H E).nox (defBody st) t ∧ t { nx := fun _ H' => Q .non H', rt := Q } (start N vs) H) : FnG P w K mg base (k + 1) f fd ps sp := by
  obtain ⟨oc, od, kV, doc, pm, an, cdv, ct, osl, rfl, lk, hcd⟩ := F.ex
  refine ⟨ar, fun A outer s H args us vs Q E hg hr e0 hb r q => ?_⟩
  have hold : ∀ b o, base.get? b = some o → s.heap.get? b = some o := fun b o z => (e0.bs b o z).1
  have kin : K.In s.heap := e0.mod.kin.keeps hold
  refine codeAny_call_function hr.depth (kin _ _ lk) rfl S.co S.gen rfl (PySem.W.codeRec_of kin hcd) (hb _ _ _ _ (wpAny_newFunctionEnv_cells S.kind (fun y hy => ?_) fun env he s1 z => ?_))
  · rcases S.par y.1 (List.of_mem_zip (a := y.1) (b := y.2) hy).1 with q | q
    · exact Or.inl q
    · exact Or.inr ⟨q, PySem.W.cellsFrom_some _ _ _ (Or.inl q)⟩
  · subst he
    obtain ⟨t, ht, hq⟩ := body cdv A outer s H vs Q E hg (hr.deeper _) q
    have I := inv_start (CX := CX0) (E := E) S hr.hd e0 (ar vs H Q E q) r z
    refine ⟨(e0.mod.nolimit.keeps hold).keeps z.toInCall.keep, codeAny_func (wpAny_mono (ht.nox.run [] s1 _ H _ I hq) (fun fl s' hs => ?_) fun _ _ hs => hs)⟩
    have out : ∀ {σ' : L2.St} {H' : Hp} {v : V} {u : Value}, Inv (cxOf CX0 P w K mg base N qual (defScope st) f cdv A outer s H E) [] σ' H' s' → L2.RelV v u → Q v H' → CE outer P w H s Q u s' :=
      fun J rv y => ⟨_, _, J.os, J.bare, J.base, J.hok, rv, y⟩
    match fl, hs with
    | .ret _, ⟨_, _, _, J, rv, y⟩ => exact out J rv y
    | .next, ⟨_, _, J, y⟩ => exact out (v := V.non) (u := Value.none) J rfl y
    | .brk, ⟨_, _, _, y⟩ => exact y.elim
    | .cont, ⟨_, _, _, y⟩ => exact y.elim
end
/-! ### how the law's call begins and ends -/
/-- ahead of the call: the heap as it is known, the part that stays, and what may be said at the end -/
theorem law_begins {P : Program} {w : World} {K : PySem.W.Frag} {mg mb : Str → Option Value} {a : Addr} {s₁ : Shared} {vs : List Value} {ns : List Int} (KX : K.In s₁.heap) (hns : s₁.heap.Ns mainGlobals mg) (hb : s₁.heap.Ns builtinsNs mb)
    (hbb : ∀ x : Str, x ≠ "__name__" → mb x = bootBuiltins x) (hlim : s₁.heap.NoLimit) (hsm : ∃ mm, s₁.heap.Ns sysModules mm) (hg : s₁.gens = #[]) (ha : s₁.heap.get? a = some { cls := .type "list", data := .seq vs.toArray }) (hi : IntsAre vs ns) (hl : ns.length ≤ sizeLine) :
    ∃ (H : Hp) (base : Heap), Only H ∧ SqL K H a (ns.map V.int) ∧ K.In base ∧ base.Ns mainGlobals mg ∧ (∃ o, base.get? sysModules = some o) ∧ Env0 P w K mg base callerA [] s₁ H ∧ ∀ (H' : Hp) (h' : Heap), Un (frs []) [] H H' s₁.heap h' → HOk P w H' h' → OldK s₁.heap h' := by
  have rv := vals_ints hi
  have size : vs.length = ns.length := hi.length
  obtain ⟨H, only, told, hok, atA, offK⟩ : ∃ H : Hp, Only H ∧ SqL K H a (ns.map V.int) ∧ HOk P w H s₁.heap ∧ (∀ b, H b ≠ none → b = a) ∧ (H a ≠ none → K.lookup a = none) := by
    rcases hk : K.lookup a with _ | o
    · have put : ∀ b, b ≠ a → upd (fun _ => none) a (.frz { cls := .type "list", data := .seq vs.toArray } (.lst (ns.map V.int))) b = none := fun b n => upd_ne n
      refine ⟨upd (fun _ => none) a (.frz { cls := .type "list", data := .seq vs.toArray } (.lst (ns.map V.int))), fun b => ?_, Or.inl (Or.inr ⟨_, upd_same⟩), fun b u z => ?_, fun b z => ?_, fun _ => rfl⟩
      all_goals by_cases e : b = a
      · subst e; exact Or.inr ⟨_, _, upd_same⟩
      · exact Or.inl (put b e)
      · subst e
        rw [upd_same] at z
        cases z
        exact ⟨ha, by rw [List.length_map]; exact hl, vs, _, rv, ha⟩
      · rw [put b e] at z; cases z
      · exact e
      · exact absurd (put b e) z
    · have same := KX a o hk
      rw [ha] at same
      obtain rfl := Option.some.inj same
      exact ⟨fun _ => none, fun _ => Or.inl rfl, Or.inr ⟨_, vs.toArray, _, hk, rfl, rfl, rfl, by rw [List.size_toArray, size]; exact hl, by simpa using rv⟩, (fun b u (z : (none : Option HO) = some u) => by cases z), fun b z => absurd rfl z, fun z => absurd rfl z⟩
  have dicts : ∀ {b : Addr} {o : Obj} {es : Array DictEntry} {ep : Nat}, s₁.heap.get? b = some o → o.data = .dict es ep → H b = none := fun {b o es ep} e d => by
    by_cases n : b = a
    · subst n
      rw [ha] at e
      cases e
      cases d
    · exact Classical.byContradiction fun y => n (atA b y)
  have spaces : ∀ {b : Addr} {m : Str → Option Value}, s₁.heap.Ns b m → (hidT s₁.heap H).Ns b m := fun ⟨o, es, ep, e, d, r⟩ => ⟨o, es, ep, hidT_get e (dicts e d), d, r⟩
  have written : K.In (hidT s₁.heap H) := fun b o e => hidT_get (KX b o e) (Classical.byContradiction fun y => by
    obtain rfl := atA b y
    rw [offK y] at e
    cases e)
  obtain ⟨mc, l1, l2⟩ := hlim
  obtain ⟨_, hsm⟩ := hsm
  have sys : ∃ o, (hidT s₁.heap H).get? sysModules = some o := by
    obtain ⟨o, _, _, e, _⟩ := spaces hsm
    exact ⟨o, e⟩
  refine ⟨H, hidT s₁.heap H, only, told, written, spaces hns, sys, ⟨rfl, ⟨written, spaces hns, ⟨mb, spaces hb, hbb⟩, mc, spaces l1, l2⟩, fun b o e => of_hidT e, Nat.le_of_eq (hidT_size _ _), trivial, fun b z => (nomatch z), hok, .of_eq hg⟩, fun H' h' un hok' => OldK.of_keep fun b o e => ?_⟩
  rcases q : H b with _ | u
  · exact un.keep b o e q (fun z => nomatch z) (fun z => nomatch z)
  · rcases only b with z | ⟨ob, xs, z⟩
    · rw [q] at z; cases z
    · have e1 := (hok b _ z).1
      have e2 := (hok' b _ (un.frzs b ob _ z)).1
      rw [e] at e1
      cases e1
      exact e2
theorem guards_caller : callerA.guards = some [] := rfl
/-- the end of a law's proof, from such a promise of its def -/
theorem walkG {l : PySem.W.OpenLaw} {q : Program} {loose : List Str} {XP : (Str → Option Value) → Heap → Prop} {YP : World → Heap → Prop} {d : DefRec} {K : Params → PySem.W.Frag} {k : Nat} {sp : PySem.W.Frag → Sp} (hn : l.most = some 63) (hdf : d.params.defaults = []) (hi : importsNone q = true) (hr : Room k callerA)
    (hY : ∀ (w : World) (h : Heap), YP w h → (K w.params).In h)
    (F : ∀ (w : World) (mg : Str → Option Value) (fa : Addr) (h : Heap), (K w.params).In h → h.Ns mainGlobals mg → mg d.name = some (.ref fa) →
      ∃ fd : FuncData, (∀ (s : Shared) (u : Value), BindsTo s fd ⟨[u], []⟩ [("script", u)]) ∧ ∀ base : Heap, (K w.params).In base → base.Ns mainGlobals mg → (∃ o, base.get? sysModules = some o) → FnG l.prog w (K w.params) mg base k fa fd ["script"] (sp (K w.params)))
    (hsp : ∀ (K : PySem.W.Frag) (H : Hp) (a : Addr) (ns : List Int), ns.length ≤ 63 → SqL K H a (ns.map V.int) → sp K [.ref a] H (fun v _ => v = .bl true) fun _ _ _ => False) :
    PySem.W.WalkO q loose XP YP l.row.toRowW d [] (fun f vs => PySem.call f vs) := by
  refine Att.attach_call hn hdf fun w s₀ s₁ mg mb fa o pm cd doc a vs ns G Y ho hd hcd hmg hobj hints hlen hg => ?_
  have small : ns.length ≤ sizeLine := Nat.le_trans hlen (by decide)
  obtain ⟨H, base, only, told, kb, nb, sb, e0, done⟩ := law_begins (P := l.prog) (w := w) (hY w _ Y) G.T.g G.T.b G.T.builtins G.T.nolimit (let ⟨mm, z, _⟩ := (G.T.seer hi).mods; ⟨mm, z⟩) hg hobj hints small
  obtain ⟨fd, binds, fn⟩ := F w mg fa _ (hY w _ Y) G.T.g hmg
  refine codeAny_mono ((fn base kb nb sb).call callerA [] s₁ H ⟨[.ref a], []⟩ [.ref a] [.ref a] _ _ guards_caller hr e0 (binds s₁ (.ref a)) (.cons rfl .nil) (hsp _ H a ns hlen told)) fun r s' h => ?_
  match r, h with
  | .error _, h => exact False.elim h
  | .ok (.ret u), ⟨v, H', os, bare, un, hok, rv, e⟩ =>
    obtain rfl : v = V.bl true := e
    obtain rfl : u = Value.bool true := rv
    exact ⟨rfl, done H' _ un hok, os, bare⟩
  | .ok .next, h => exact False.elim h
  | .ok .brk, h => exact False.elim h
  | .ok .cont, h => exact False.elim h
end Xci

namespace Xci
open PySem L2

section
variable {P : Program} {w : World} {K : PySem.W.Frag} {mg : Str → Option Value} {base : Heap}
abbrev sLawTake : Stmt := top 48
theorem scLawTake : FnScope ["deck", "many", "digit", "one"] ["deck", "many"] (defScope sLawTake) := ⟨rfl, rfl, rfl, by decide +kernel, rfl, by decide +kernel, by decide +kernel⟩

theorem ok_take {f : Addr} {fd : FuncData} (F : Fun K "_law_take" "_law_take" sLawTake f fd) (T : Txt mg) : FnOk P w K mg base CX0 1 f fd ["deck", "many"] spTake := by
  refine F.ok scLawTake (fun vs H Q E h => ?_) (fun cdv A outer s H vs Q E hr h => ?_)
  · obtain ⟨a, l, m, rfl, _⟩ := h
    rfl
  · obtain ⟨a, l, m, rfl, ⟨ns, i, c, n, s, h1, hl, hal, hns, hi0, hil, hc0, hs0, hs1⟩, hm, hm2, k⟩ := h
    refine ⟨_, (pss_cons (ps_asg (pe_op op_add (pe_ix ix_list (pv 0) pe_int (fun _ _ => rfl)) pe_int) (pg_sub (pv 0) pe_int set_list))
      (C8.pss_cut (ps_if (PW.pt (pw_and (pt_cmpR op_eq (pe_ix ix_list (pv 0) pe_int (fun _ _ => rfl)) pe_int (nomark _)) (pw_and1 (pt_cmpR op_lt (pe_ix ix_list (pv 0) pe_int (fun _ _ => rfl)) (pe_callB call_len rfl T.len PySem.boot_len (pa_cons (pe_ix ix_list (pv 0) pe_int (fun _ _ => rfl)) pa_nil)) (nomark _))))) (pss_cons (ps_asg (pe_op op_add (pe_ix ix_list (pv 0) pe_int (fun _ _ => rfl)) pe_int) (pg_sub (pv 0) pe_int set_list))
      (pss_cons (ps_asg (pe_ix ix_list (pe_ix ix_list (pv 0) pe_int (fun _ _ => rfl)) (pe_op op_sub (pe_ix ix_list (pv 0) pe_int (fun _ _ => rfl)) pe_int) (fun _ _ => rfl)) (pg_sub (pv 0) pe_int set_list))
      (pss_one (ps_if (pt_cmpR op_lt (pe_ix ix_list (pv 0) pe_int (fun _ _ => rfl)) (pe_op op_pow pe_int pe_int) (nomark _)) (pss_cons (ps_asg (pe_op op_mod (pe_callTy call_int1 rfl T.int (by decide +kernel) (pa_cons (pe_op op_add (pe_op op_add (pe_op op_mul (pe_ix ix_list (pv 0) pe_int (fun _ _ => rfl)) pe_int) (pe_ix ix_list (pv 0) pe_int (fun _ _ => rfl))) pe_int) pa_nil)) pe_int) (pg_sub (pv 0) pe_int set_list))
      (pss_one (ps_asg pe_int (pg_sub (pv 0) pe_int set_list)))) pss_nil)))) pss_nil)
      (C8.pss_cut (ps_if (pt_cmpR op_gt (pe_ix ix_list (pv 0) pe_int (fun _ _ => rfl)) pe_int (nomark _)) (pss_cons (ps_set (i := 2) scLawTake.nd rfl (by first | exact Or.inl rfl | exact Or.inr rfl) (pe_op op_mod (pe_callTy call_int1 rfl T.int (by decide +kernel) (pa_cons (pe_ix ix_list (pv 0) pe_int (fun _ _ => rfl)) pa_nil)) (pv 1)))
      (pss_cons (ps_asg (pe_op op_fdiv (pe_ix ix_list (pv 0) pe_int (fun _ _ => rfl)) (pv 1)) (pg_sub (pv 0) pe_int set_list))
      (pss_one (ps_ret (pv 2))))) pss_nil)
      (C8.pss_cut (ps_set (i := 3) scLawTake.nd rfl (by first | exact Or.inl rfl | exact Or.inr rfl) (pe_op op_mod (pe_callTy call_int1 rfl T.int (by decide +kernel) (pa_cons (pe_op op_mul (pe_op op_add (pe_op op_add (pe_ix ix_list (pv 0) pe_int (fun _ _ => rfl)) (pe_op op_mul pe_int (pe_ix ix_list (pv 0) pe_int (fun _ _ => rfl)))) pe_int) pe_int) pa_nil)) pe_int))
      (C8.pss_cut (ps_set (i := 3) scLawTake.nd rfl (by first | exact Or.inl rfl | exact Or.inr rfl) (pe_op op_mod (pe_callTy call_int1 rfl T.int (by decide +kernel) (pa_cons (pe_op op_mul (pv 3) (pe_op op_add (pe_op op_fdiv (pv 3) pe_int) pe_int)) pa_nil)) pe_int))
      (C8.pss_cut (ps_set (i := 3) scLawTake.nd rfl (by first | exact Or.inl rfl | exact Or.inr rfl) (pe_op op_mod (pe_callTy call_int1 rfl T.int (by decide +kernel) (pa_cons (pe_op op_mul (pv 3) (pe_op op_add (pe_op op_fdiv (pv 3) pe_int) pe_int)) pa_nil)) pe_int))
      (pss_one (ps_ret (pe_op op_mod (pe_callTy call_int1 rfl T.int (by decide +kernel) (pa_cons (pe_op op_fdiv (pv 3) pe_int) pa_nil)) (pv 1)))))))))), ?_⟩
    refine ⟨_, rfl, a, _, _, _, rfl, rfl, SqL.of h1, at_of (j := 3) rfl rfl, _, _, rfl, rfl, _, rfl, a, _, _, 3, rfl, rfl, h1, rfl, ?_⟩
    generalize hH2 : upd H a _ = H2
    have e2 : H2 a = some (.lst [.ref l, .int i, .int c, .int (n + 1), .int s]) := by rw [← hH2]; exact upd_same
    have o2 : ∀ b, b ≠ a → H2 b = H b := fun b hb => by rw [← hH2]; exact upd_ne hb
    clear hH2
    refine ⟨fun σ' H3 => σ' = [some (.ref a), some (.int m), none, none] ∧ ∃ (i c n s : Int), H3 a = some (.lst [.ref l, .int i, .int c, .int n, .int s]) ∧ 0 ≤ i ∧ i ≤ (ns.length : Int) ∧ 0 ≤ c ∧ 0 ≤ s ∧ s < 2147483647 ∧ ∀ b, b ≠ a → H3 b = H b, ?_, ?_⟩
    · refine ⟨_, rfl, a, _, _, _, rfl, rfl, SqL.of e2, at_of (j := 2) rfl rfl, rfl, _, rfl, ?_⟩
      refine ite2 (fun hc => ?_) (fun _ => ?_)
      · have hc : c = 0 := by simpa using hc
        have hl2 : H2 l = some (.lst (ns.map V.int)) := by rw [o2 l (Ne.symm hal)]; exact hl
        refine ⟨_, rfl, a, _, _, _, rfl, rfl, SqL.of e2, at_of (j := 1) rfl rfl, _, rfl, a, _, _, _, rfl, rfl, SqL.of e2, at_of (j := 0) rfl rfl, _, _, rfl, .inl ⟨_, SqL.of hl2, rfl⟩, _, _, rfl, rfl, _, rfl, ?_⟩
        refine ite2 (fun hi => ?_) (fun _ => ?_)
        · have hi : i < (ns.length : Int) := by simpa using hi
          refine ⟨_, rfl, a, _, _, _, rfl, rfl, SqL.of e2, at_of (j := 1) rfl rfl, _, _, rfl, rfl, _, rfl, a, _, _, 1, rfl, rfl, e2, rfl, ?_⟩
          generalize hH3 : upd H2 a _ = H3
          have e3 : H3 a = some (.lst [.ref l, .int (i + 1), .int c, .int (n + 1), .int s]) := by rw [← hH3]; exact upd_same
          have o3 : ∀ b, b ≠ a → H3 b = H b := fun b hb => by rw [← hH3, upd_ne hb]; exact o2 b hb
          clear hH3
          have hl3 : H3 l = some (.lst (ns.map V.int)) := by rw [o3 l (Ne.symm hal)]; exact hl
          obtain ⟨j, ej⟩ : ∃ j : Nat, i = (j : Int) := ⟨i.toNat, by omega⟩
          have hj : j < ns.length := by omega
          have hnz : 0 ≤ ns[j] := hns _ (List.getElem_mem hj)
          refine ⟨_, rfl, a, _, _, _, rfl, rfl, SqL.of e3, at_of (j := 0) rfl rfl, _, rfl, a, _, _, _, rfl, rfl, SqL.of e3, at_of (j := 1) rfl rfl, _, _, rfl, rfl, l, _, _, _, rfl, rfl, SqL.of hl3, at_of (j := j) (v := V.int ns[j]) (by omega) (by rw [List.getElem?_map, List.getElem?_eq_getElem hj]; rfl), _, rfl, a, _, _, 2, rfl, rfl, e3, rfl, ?_⟩
          generalize hH4 : upd H3 a _ = H4
          generalize hz : ns[j] = z at *
          have e4 : H4 a = some (.lst [.ref l, .int (i + 1), .int z, .int (n + 1), .int s]) := by rw [← hH4]; exact upd_same
          have o4 : ∀ b, b ≠ a → H4 b = H b := fun b hb => by rw [← hH4, upd_ne hb]; exact o3 b hb
          clear hH4
          refine ⟨_, rfl, a, _, _, _, rfl, rfl, SqL.of e4, at_of (j := 2) rfl rfl, _, _, rfl, rfl, ⟨by decide, by decide, by decide⟩, _, _, rfl, rfl, _, rfl, ?_⟩
          refine ite2 (fun _ => ?_) (fun _ => ?_)
          · refine ⟨_, rfl, a, _, _, _, rfl, rfl, SqL.of e4, at_of (j := 4) rfl rfl, _, _, rfl, rfl, .inr ⟨by decide, by decide⟩, _, rfl, a, _, _, _, rfl, rfl, SqL.of e4, at_of (j := 2) rfl rfl, _, _, rfl, rfl, _, _, rfl, rfl, .inl ⟨_, rfl, _, _, rfl, rfl, (by show (0 : Int) < 2147483647; decide), _, rfl, a, _, _, 4, rfl, rfl, e4, rfl, ?_⟩⟩
            refine ⟨_, rfl, a, _, _, 2, rfl, rfl, upd_same, rfl, rfl, ?_⟩
            obtain ⟨b1, b2⟩ := mod_bd (s * 69621 + z + 1) (m := 2147483647) (by decide)
            exact ⟨i + 1, 0, n + 1, _, upd_same, by omega, by omega, by decide, b1, b2, fun b hb => by rw [upd_ne hb, upd_ne hb]; exact o4 b hb⟩
          · exact ⟨rfl, i + 1, z, n + 1, s, e4, by omega, by omega, hnz, hs0, hs1, o4⟩
        · exact ⟨rfl, i, c, n + 1, s, e2, hi0, hil, hc0, hs0, hs1, o2⟩
      · exact ⟨rfl, i, c, n + 1, s, e2, hi0, hil, hc0, hs0, hs1, o2⟩
    · rintro σ' H3 ⟨rfl, i, c, n, s, e3, hi0, hil, hc0, hs0, hs1, o3⟩
      have fin : ∀ (d i c n s : Int) (H' : Hp), 0 ≤ d → d < m → H' a = some (.lst [.ref l, .int i, .int c, .int n, .int s]) → 0 ≤ i → i ≤ (ns.length : Int) → 0 ≤ c → 0 ≤ s → s < 2147483647 → (∀ b, b ≠ a → H' b = H b) → Q (.int d) H' :=
        fun d i c n s H' d0 d1 e i0 i1 c0 s0 s1 o => k d H' d0 d1 ⟨ns, i, c, n, s, e, by rw [o l (Ne.symm hal)]; exact hl, hal, hns, i0, i1, c0, s0, s1⟩ (fun b u h hb => by rw [o b hb]; exact h) o
      refine ⟨fun σ' H4 => σ' = [some (.ref a), some (.int m), none, none] ∧ H4 = H3, ?_, ?_⟩
      · refine ⟨_, rfl, a, _, _, _, rfl, rfl, SqL.of e3, at_of (j := 2) rfl rfl, _, _, rfl, rfl, _, rfl, ?_⟩
        refine ite2 (fun _ => ?_) (fun _ => ⟨rfl, rfl⟩)
        obtain ⟨b1, b2⟩ := mod_bd c hm
        refine ⟨_, rfl, a, _, _, _, rfl, rfl, SqL.of e3, at_of (j := 2) rfl rfl, .inl ⟨_, rfl, _, rfl, _, _, rfl, rfl, hm, ?_⟩⟩
        refine ⟨_, rfl, a, _, _, _, rfl, rfl, SqL.of e3, at_of (j := 2) rfl rfl, _, rfl, _, _, rfl, rfl, ⟨hm, hm2⟩, _, rfl, a, _, _, 2, rfl, rfl, e3, rfl, _, rfl, ?_⟩
        exact fin _ i (c / m) n s _ b1 b2 upd_same hi0 hil (Int.ediv_nonneg hc0 (by omega)) hs0 hs1 fun b hb => by rw [upd_ne hb]; exact o3 b hb
      · rintro σ' H4 ⟨rfl, rfl⟩
        have bd : ∀ x : Int, 0 ≤ x % 2147483647 ∧ x % 2147483647 < 2147483647 := fun x => mod_bd x (by decide)
        have bd2 : ∀ x : Int, 0 ≤ x % 2147483399 ∧ x % 2147483399 < 2147483399 := fun x => mod_bd x (by decide)
        refine ⟨fun σ' H5 => ∃ x : Int, 0 ≤ x ∧ x < 2147483647 ∧ σ' = [some (.ref a), some (.int m), none, some (.int x)] ∧ H5 = H4, ?_, ?_⟩
        · refine ⟨_, rfl, a, _, _, _, rfl, rfl, SqL.of e3, at_of (j := 4) rfl rfl, _, rfl, a, _, _, _, rfl, rfl, SqL.of e3, at_of (j := 3) rfl rfl, _, _, rfl, rfl, .inl ⟨by decide, by decide⟩, _, _, rfl, rfl, _, _, rfl, rfl, _, _, rfl, rfl, .inr ⟨by decide, by decide⟩, .inl ⟨_, rfl, _, _, rfl, rfl, (by show (0 : Int) < 2147483647; decide), ?_⟩⟩
          exact ⟨_, (bd _).1, (bd _).2, rfl, rfl⟩
        rintro σ' H5 ⟨x1, q1, q1', rfl, rfl⟩
        refine ⟨fun σ' H5' => ∃ x : Int, 0 ≤ x ∧ x < 2147483647 ∧ σ' = [some (.ref a), some (.int m), none, some (.int x)] ∧ H5' = H5, ?_, ?_⟩
        · refine ⟨_, rfl, _, rfl, _, _, rfl, rfl, ⟨by decide, by decide⟩, _, _, rfl, rfl, _, _, rfl, rfl, .inl ⟨by omega, by omega⟩, .inl ⟨_, rfl, _, _, rfl, rfl, (by show (0 : Int) < 2147483647; decide), ?_⟩⟩
          exact ⟨_, (bd _).1, (bd _).2, rfl, rfl⟩
        rintro σ' H6 ⟨x2, q2, q2', rfl, rfl⟩
        refine ⟨fun σ' H5' => ∃ x : Int, σ' = [some (.ref a), some (.int m), none, some (.int x)] ∧ H5' = H6, ?_, ?_⟩
        · refine ⟨_, rfl, _, rfl, _, _, rfl, rfl, ⟨by decide, by decide⟩, _, _, rfl, rfl, _, _, rfl, rfl, .inl ⟨by omega, by omega⟩, .inl ⟨_, rfl, _, _, rfl, rfl, (by show (0 : Int) < 2147483399; decide), ?_⟩⟩
          exact ⟨_, rfl, rfl⟩
        rintro σ' H7 ⟨x3, rfl, rfl⟩
        refine ⟨_, rfl, _, _, rfl, rfl, ⟨by decide, by decide⟩, .inl ⟨_, rfl, _, rfl, _, _, rfl, rfl, hm, ?_⟩⟩
        obtain ⟨b1, b2⟩ := mod_bd (x3 / 32) hm
        exact fin _ i c n s _ b1 b2 e3 hi0 hil hc0 hs0 hs1 o3
end
end Xci

namespace Xci
open PySem L2

section
variable {P : Program} {w : World} {K : PySem.W.Frag} {mg : Str → Option Value} {base : Heap}
abbrev sLawDeck : Stmt := top 47
theorem scLawDeck : FnScope ["script", "state", "cell"] ["script"] (defScope sLawDeck) := ⟨rfl, rfl, rfl, by decide +kernel, rfl, by decide +kernel, by decide +kernel⟩

theorem ok_deck {f : Addr} {fd : FuncData} (F : Fun K "_law_deck" "_law_deck" sLawDeck f fd) (T : Txt mg) : FnOk P w K mg base CX0 1 f fd ["script"] (spDeck K) := by
  refine F.ok scLawDeck (fun vs H Q E h => ?_) (fun cdv A outer s H vs Q E hr h => ?_)
  · obtain ⟨a, m, rfl, _⟩ := h
    rfl
  · obtain ⟨a, ns, rfl, hS, hlen, k⟩ := h
    refine ⟨_, (pss_cons (ps_set (i := 1) scLawDeck.nd rfl (by first | exact Or.inl rfl | exact Or.inr rfl) (pe_op op_add (pe_callB call_len rfl T.len PySem.boot_len (pa_cons (pv 0) pa_nil)) pe_int))
      (pss_cons (ps_for PassesOwn.never rfl (pi_list (pe_slice sl_list (pv 0) po_none (po_some pe_int))) (pg_name (i := 2) scLawDeck.nd rfl (by first | exact Or.inl rfl | exact Or.inr rfl)) (pss_one (ps_set (i := 1) scLawDeck.nd rfl (by first | exact Or.inl rfl | exact Or.inr rfl) (pe_op op_mod (pe_callTy call_int1 rfl T.int (by decide +kernel) (pa_cons (pe_op op_add (pe_op op_add (pe_op op_mul (pv 1) pe_int) (pe_op op_mul (pe_callTy call_int1 rfl T.int (by decide +kernel) (pa_cons (pv 2) pa_nil)) pe_int)) pe_int) pa_nil)) pe_int))))
      (pss_one (ps_ret (pe_lst (pa_cons (pe_lc (own := [("cell", 2)]) rfl scLawDeck.nd (pi_list (pe_slice sl_list (pv 0) po_none (po_some pe_int))) (blkOk_by (N := ["script", "state", "cell"]) (sc := defScope sLawDeck) (by decide +kernel)) (fun _ _ _ _ _ => (pg_name (i := 2) scLawDeck.nd rfl (by first | exact Or.inl rfl | exact Or.inr rfl))) (fun _ _ _ _ _ => pts_nil) (fun _ _ _ _ _ => (pe_callB call_abs rfl T.abs (by decide +kernel) (pa_cons (pe_callTy call_int1 rfl T.int (by decide +kernel) (pa_cons (pv 2) pa_nil)) pa_nil)))) (pa_cons pe_int (pa_cons pe_int (pa_cons pe_int (pa_cons (pv 1) pa_nil)))))))))), ?_⟩
    refine ⟨_, rfl, _, _, rfl, .inl ⟨_, hS, rfl⟩, _, _, rfl, rfl, ?_⟩
    refine ⟨_, rfl, _, rfl, _, _, rfl, hS, fun p hp => ⟨_, rfl, ⟨_, SqL.of upd_same⟩, ?_⟩⟩
    have sp0 : Same H (upd H p (.lst (cutV (ns.map V.int) none (some 63)))) := Same.new hp
    generalize hH1 : upd H p (.lst (cutV (ns.map V.int) none (some 63))) = H1 at sp0
    have e1 : H1 p = some (.lst ((ns.take 63).map V.int)) := by rw [← hH1, cut63]; exact upd_same
    clear hH1
    refine for_list (K := K) (a := p) (xs := (ns.take 63).map V.int) (fun i σ H2 => H2 = H1 ∧ ∃ (z : Int) (v : Option V), σ = [some (.ref a), some (.int z), v] ∧ (0 ≤ z ∧ z < 2147483647 ∨ z = (ns.length : Int) + 1)) ⟨rfl, _, none, rfl, .inr (by simp)⟩ (fun i σ H2 _ ⟨e, _⟩ => by rw [e]; exact SqL.of e1) ?_ ?_
    · rintro i y σ H2 hi ⟨rfl, z, v, rfl, hz⟩
      obtain ⟨c, hc, rfl⟩ := int_of hi
      refine ⟨_, rfl, _, _, rfl, rfl, .inr ⟨by decide, by decide⟩, _, rfl, .inl ⟨_, rfl, _, _, rfl, rfl, .inr ⟨by decide, by decide⟩, _, _, rfl, rfl, _, _, rfl, rfl, .inl ⟨_, rfl, _, _, rfl, rfl, (by show (0 : Int) < 2147483647; decide), ?_⟩⟩⟩
      obtain ⟨b1, b2⟩ := mod_bd (z * 48271 + c * 69621 + 7) (m := 2147483647) (by decide)
      exact ⟨rfl, _, some (.int c), rfl, .inl ⟨b1, b2⟩⟩
    · rintro σ H2 ⟨rfl, z, v, rfl, hz⟩
      have hS2 : SqL K H2 a (ns.map V.int) := sp0.seq hS
      refine ⟨_, rfl, _, rfl, _, _, rfl, hS2, fun p2 hp2 => ⟨_, rfl, ⟨_, SqL.of upd_same⟩, ?_⟩⟩
      intro D hD
      have sp1 : Same H2 (upd H2 p2 (.lst (cutV (ns.map V.int) none (some 63)))) := Same.new hp2
      generalize hH3 : upd H2 p2 (.lst (cutV (ns.map V.int) none (some 63))) = H3 at sp1 hD
      have e3 : H3 p2 = some (.lst ((ns.take 63).map V.int)) := by rw [← hH3, cut63]; exact upd_same
      clear hH3
      have nD : p2 ≠ D := ne_of_none e3 hD
      refine lc_list (K := K) (a := p2) (xs := (ns.take 63).map V.int) (fun i H4 => ∃ zs : List Int, Same H3 H4 ∧ H4 D = some (.lst (zs.map V.int)) ∧ zs.length = i ∧ ∀ z ∈ zs, 0 ≤ z) ⟨[], Same.new hD, upd_same, rfl, by simp⟩ (fun i H4 _ ⟨_, e, _⟩ => SqL.of (e _ _ e3)) ?_ ?_
      · rintro i y H4 hi ⟨zs, sm, e4, hz4, hpos⟩
        obtain ⟨c, hc, rfl⟩ := int_of hi
        have hi63 : i < 63 := by
          have q := (List.getElem?_eq_some_iff.mp hc).1
          rw [List.length_take] at q
          omega
        refine ⟨rfl, _, rfl, .inl ⟨_, rfl, _, rfl, _, e4, by rw [List.length_map, hz4]; exact small1000 (by omega), ?_⟩⟩
        refine ⟨zs ++ [if c < 0 then -c else c], fun b o h => ?_, by rw [upd_same, List.map_append]; rfl, by rw [List.length_append, hz4]; rfl, fun z hz => ?_⟩
        · rw [upd_ne (ne_of_none h hD)]; exact sm b o h
        · rcases List.mem_append.mp hz with q | q
          · exact hpos z q
          · rw [List.mem_singleton.mp q]
            split <;> omega
      · rintro H4 ⟨zs, sm, e4, hz4, hpos⟩
        refine ⟨_, rfl, (by show 5 ≤ sizeLine; decide), fun q hq => ?_⟩
        refine k q D _ ⟨zs, 0, 0, 0, z, upd_same, ?_, ?_, hpos, by omega, by omega, by omega, by omega, by omega⟩ ?_
        · rw [upd_ne (ne_of_none e4 hq)]; exact e4
        · exact (ne_of_none e4 hq).symm
        · exact fun b o h => by rw [upd_ne (ne_of_none (sm _ _ (sp1 _ _ (sp0 _ _ h))) hq)]; exact sm _ _ (sp1 _ _ (sp0 _ _ h))
end
end Xci

namespace Xci
open PySem L2

section
variable {P : Program} {w : World} {K : PySem.W.Frag} {mg : Str → Option Value} {base : Heap}
abbrev sLawMixed : Stmt := top 49
theorem scLawMixed : FnScope ["deck", "things", "left", "found", "turn"] ["deck", "things"] (defScope sLawMixed) := ⟨rfl, rfl, rfl, by decide +kernel, rfl, by decide +kernel, by decide +kernel⟩

theorem ok_mixed {f : Addr} {fd : FuncData} (F : Fun K "_law_mixed" "_law_mixed" sLawMixed f fd) (T : Txt mg) (HT : Has P w K mg base "_law_take" ["deck", "many"] 1 spTake) : FnOk P w K mg base CX0 2 f fd ["deck", "things"] (spMixed K) := by
  refine F.ok scLawMixed (fun vs H Q E h => ?_) (fun cdv A outer s H vs Q E hr h => ?_)
  · obtain ⟨a, ld, p, xs, rfl, _⟩ := h
    rfl
  · obtain ⟨a, ld, p, xs, rfl, hd, hS, hlen, k⟩ := h
    refine ⟨_, (pss_cons (ps_set (i := 2) scLawMixed.nd rfl (by first | exact Or.inl rfl | exact Or.inr rfl) (pe_callTy call_list_of rfl T.list (by decide +kernel) (pa_cons (pv 1) pa_nil)))
      (pss_cons (ps_set (i := 3) scLawMixed.nd rfl (by first | exact Or.inl rfl | exact Or.inr rfl) (pe_lst pa_nil))
      (pss_cons (ps_for PassesOwn.never rfl (pi_range1 rfl T.range (pa_cons (pe_callB call_len rfl T.len PySem.boot_len (pa_cons (pv 1) pa_nil)) pa_nil)) (pg_name (i := 4) scLawMixed.nd rfl (by first | exact Or.inl rfl | exact Or.inr rfl)) (pss_one (ps_expr (pe_bm PySem.F.plainAttrs_list PySem.F.slot_list_append PySem.F.type_list_append mt_append (pv 3) (pa_cons (pe_bm PySem.F.plainAttrs_list PySem.F.slot_list_pop PySem.F.type_list_pop mt_popAt (pv 2) (pa_cons (pe_callH HT (hr.mono (by decide)) rfl (pa_cons (pv 0) (pa_cons (pe_callB call_len rfl T.len PySem.boot_len (pa_cons (pv 2) pa_nil)) pa_nil))) pa_nil)) pa_nil)))))
      (pss_one (ps_ret (pv 3)))))), ?_⟩
    refine ⟨_, rfl, p, xs, rfl, hS, fun l hl => ?_⟩
    refine ⟨Nat.zero_le _, fun q hq => ?_⟩
    have d1 : Deck (upd (upd H l (.lst xs)) q (.lst [])) a ld := (hd.keep (Same.new hl)).keep (Same.new hq)
    have f1 : Fr a H (upd (upd H l (.lst xs)) q (.lst [])) := (Fr.new hl).trans (Fr.new hq)
    have nl : l ≠ a := hd.ne hl
    have hq0 : H q = Option.none := (Same.new hl).free hq
    have nq : q ≠ a := hd.ne hq0
    have ml : l ≠ ld := hd.ne' hl
    have mq : q ≠ ld := hd.ne' hq0
    have nlq : l ≠ q := ne_of_none upd_same hq
    have el : (upd (upd H l (.lst xs)) q (.lst [])) l = some (.lst xs) := by rw [upd_ne nlq]; exact upd_same
    have eq : (upd (upd H l (.lst xs)) q (.lst [])) q = some (.lst []) := upd_same
    have hS1 : Sq K (upd (upd H l (.lst xs)) q (.lst [])) p xs := by
      rcases hS with h | h
      · exact .inl (Same.seq (Same.new hq) (Same.seq (Same.new hl) h))
      · exact .inr (sqT_same (sqT_same h (Same.new hl)) (Same.new hq))
    generalize upd (upd H l (.lst xs)) q (.lst []) = H1 at *
    refine ⟨_, rfl, _, xs.length, rfl, ?_, _, rfl, by omega, by omega, ?_⟩
    · exact hS1.elim (fun h => .inl ⟨_, h, rfl⟩) (fun h => .inr ⟨_, h, rfl⟩)
    refine for_range (n := (xs.length : Int).toNat) (fun i σ H2 => ∃ (us ys : List V) (v : Option V), σ = [some (.ref a), some (.ref p), some (.ref l), some (.ref q), v] ∧ H2 l = some (.lst us) ∧ H2 q = some (.lst ys) ∧ Deck H2 a ld ∧ (∀ b o, H b = some o → b ≠ a → H2 b = some o) ∧ (ys ++ us).Perm xs ∧ ys.length = i)
      ⟨xs, [], none, rfl, el, eq, d1, f1, List.Perm.refl _, rfl⟩ ?_ ?_
    · rintro i σ H2 hi ⟨us, ys, v, rfl, e1, e2, hd2, f2, pm, hy⟩
      have hlen2 := pm.length_eq
      rw [List.length_append] at hlen2
      have hus : 0 < us.length := by omega
      refine ⟨_, rfl, .inl ⟨rfl, _, SqL.of e2⟩, _, rfl, .inl ⟨rfl, _, SqL.of e1⟩, _, rfl, _, rfl, _, us.length, rfl, .inl ⟨_, SqL.of e1, rfl⟩, a, ld, _, rfl, hd2, by omega, by omega, fun d H3 d0 d1 hd3 f3 _ => ?_⟩
      obtain ⟨j, ej⟩ : ∃ j : Nat, d = (j : Int) := ⟨d.toNat, by omega⟩
      subst ej
      have hj : j < us.length := by omega
      have e1' : H3 l = some (.lst us) := f3 _ _ e1 nl
      have e2' : H3 q = some (.lst ys) := f3 _ _ e2 nq
      have hx : us[j]? = some us[j] := List.getElem?_eq_getElem hj
      refine ⟨l, us, _, j, us[j], rfl, rfl, e1', by omega, by omega, ?_, hx, ?_⟩
      · unfold seqIndex?
        simp
        try omega
      refine ⟨q, ys, _, rfl, rfl, by rw [upd_ne nlq.symm]; exact e2', small1000 (by omega), ?_⟩
      refine ⟨us.eraseIdx j, ys ++ [us[j]], _, rfl, by rw [upd_ne nlq]; exact upd_same, upd_same, ?_, fun b o h n => ?_, ?_, by rw [List.length_append, hy]; rfl⟩
      · exact (hd3.put nl ml).put nq mq
      · have nbl : b ≠ l := ne_of_none h hl
        have nbq : b ≠ q := ne_of_none h hq0
        rw [upd_ne nbq, upd_ne nbl]
        exact f3 _ _ (f2 _ _ h n) n
      · have p1 := perm_erase hx
        have p2 : (ys ++ [us[j]] ++ us.eraseIdx j).Perm (ys ++ us) := by
          rw [List.append_assoc]
          exact (List.perm_append_comm.trans p1).append_left ys
        exact p2.trans pm
    · rintro σ H2 ⟨us, ys, v, rfl, e1, e2, hd2, f2, pm, hy⟩
      have hlen2 := pm.length_eq
      rw [List.length_append] at hlen2
      have hus : us = [] := List.eq_nil_of_length_eq_zero (by omega)
      subst hus
      rw [List.append_nil] at pm
      exact ⟨_, rfl, k q ys H2 pm e2 hq0 hd2 f2⟩
end
end Xci

namespace Xci
open PySem L2

section
variable {P : Program} {w : World} {K : PySem.W.Frag} {mg : Str → Option Value} {base : Heap}
abbrev sLawWord : Stmt := top 50
theorem scLawWord : FnScope ["deck", "size", "sign"] ["deck"] (defScope sLawWord) := ⟨rfl, rfl, rfl, by decide +kernel, rfl, by decide +kernel, by decide +kernel⟩

theorem join_letters (cs : List Nat) : (PySem.Txt.join (PySem.Str.ofString "") (cs.map fun c => (⟨#[c]⟩ : Str))).cps.toList = cs := by
  show (Builtin.Str.glued (PySem.Str.ofString "") _).cps.toList = _
  rw [StrLaws.glued_eq_join]
  induction cs with
  | nil => rfl
  | cons c r ih =>
    cases r with
    | nil => rfl
    | cons d r =>
      show ((⟨#[c]⟩ : Str) ++ PySem.Str.ofString "" ++ PySem.Str.join (PySem.Str.ofString "") ((d :: r).map fun c => (⟨#[c]⟩ : Str))).cps.toList = _
      have e : ∀ a b : Str, (a ++ b).cps = a.cps ++ b.cps := fun _ _ => rfl
      rw [e, e, Array.toList_append, Array.toList_append, ih]
      rfl
theorem sum_ones (cs : List Nat) : ((cs.map fun c => (⟨#[c]⟩ : Str)).map (·.length)).sum = cs.length := by
  induction cs with
  | nil => rfl
  | cons c r ih =>
    rw [List.map_cons, List.map_cons, List.sum_cons, ih, List.length_cons]
    have : (⟨#[c]⟩ : Str).length = 1 := rfl
    rw [this]
    omega
theorem letter_at {j : Nat} (h : j < 26) : ("abcdefghijklmnopqrstuvwxyz" : Str).cps.toList[j]? = some (97 + j) := by
  have : ∀ j : Fin 26, ("abcdefghijklmnopqrstuvwxyz" : Str).cps.toList[j.val]? = some (97 + j.val) := by decide +kernel
  exact this ⟨j, h⟩
theorem ok_word {f : Addr} {fd : FuncData} (F : Fun K "_law_word" "_law_word" sLawWord f fd) (T : Txt mg) (HT : Has P w K mg base "_law_take" ["deck", "many"] 1 spTake) : FnOk P w K mg base CX0 2 f fd ["deck"] spWord := by
  refine F.ok scLawWord (fun vs H Q E h => ?_) (fun cdv A outer s H vs Q E hr h => ?_)
  · obtain ⟨a, ld, rfl, _⟩ := h
    rfl
  · obtain ⟨a, ld, rfl, hd, k⟩ := h
    refine ⟨_, (pss_cons (ps_set (i := 1) scLawWord.nd rfl (by first | exact Or.inl rfl | exact Or.inr rfl) (pe_op op_add pe_int (pe_callH HT (hr.mono (by decide)) rfl (pa_cons (pv 0) (pa_cons (pe_op op_add pe_int (pe_op op_mul pe_int (pe_callTy call_int1 rfl T.int (by decide +kernel) (pa_cons (pe_cmpR op_eq (pe_callH HT (hr.mono (by decide)) rfl (pa_cons (pv 0) (pa_cons pe_int pa_nil))) pe_int (nomark _)) pa_nil)))) pa_nil)))))
      (pss_one (ps_ret (pe_bm PySem.F.plainAttrs_str PySem.F.slot_str_join PySem.F.type_str_join mt_join pe_str (pa_cons (pe_lc (own := [("sign", 2)]) rfl scLawWord.nd (pi_range1 rfl T.range (pa_cons (pv 1) pa_nil)) (blkOk_by (N := ["deck", "size", "sign"]) (sc := defScope sLawWord) (by decide +kernel)) (fun _ _ _ _ _ => (pg_name (i := 2) scLawWord.nd rfl (by first | exact Or.inl rfl | exact Or.inr rfl))) (fun _ _ _ _ _ => pts_nil) (fun _ _ _ _ _ => (pe_ix ix_str pe_str (pe_callH HT (hr.mono (by decide)) rfl (pa_cons (pv 0) (pa_cons pe_int pa_nil))) (fun _ _ => rfl)))) pa_nil))))), ?_⟩
    refine ⟨_, rfl, _, rfl, a, ld, _, rfl, hd, by decide, by decide, fun d0 H1 _ _ hd1 f1 _ => ?_⟩
    refine ⟨rfl, .inr ⟨_, rfl, _, _, rfl, rfl, .inl ⟨by decide, by decide⟩, _, _, rfl, rfl, ?_⟩⟩
    have hb : ∀ b : Bool, 2 ≤ (2 + 6 * (if b = true then 1 else 0) : Int) ∧ (2 + 6 * (if b = true then 1 else 0) : Int) ≤ 8 := by decide
    obtain ⟨m0, m1⟩ := hb (decide (V.int d0 = V.int 0))
    refine ⟨a, ld, _, rfl, hd1, Int.lt_of_lt_of_le (by decide) m0, Int.lt_of_le_of_lt m1 (by decide), fun d1 H2 d10 d11 hd2 f2 _ => ?_⟩
    have d18 : d1 < 8 := Int.lt_of_lt_of_le d11 m1
    refine ⟨_, _, rfl, rfl, ?_⟩
    have fr : Fr a H H2 := f1.trans f2
    refine ⟨rfl, _, rfl, _, rfl, by omega, by omega, fun D hD => ?_⟩
    have hD0 := hd2.free fr hD
    refine lc_range (n := (1 + d1).toNat) (fun i H4 => ∃ cs : List Nat, Deck H4 a ld ∧ Fr a H H4 ∧ H4 D = some (.lst ((cs.map fun c => (⟨#[c]⟩ : Str)).map V.str)) ∧ cs.length = i ∧ ∀ c ∈ cs, 97 ≤ c ∧ c ≤ 122) ⟨[], hd2.keep (Same.new hD), fr.trans (Fr.new hD), upd_same, rfl, by simp⟩ ?_ ?_
    · rintro i H4 hi ⟨cs, hd4, f4, e4, hl, hz⟩
      refine ⟨rfl, _, rfl, a, ld, _, rfl, hd4, by decide, by decide, fun d H5 d0 d1 hd5 f5 _ => ?_⟩
      obtain ⟨j, ej⟩ : ∃ j : Nat, d = (j : Int) := ⟨d.toNat, by omega⟩
      subst ej
      have hj : j < 26 := by omega
      have nD := hd.ne hD0
      refine ⟨_, _, _, rfl, rfl, by decide +kernel, atI_nat (letter_at hj), _, f5 _ _ e4 nD, by rw [List.length_map, List.length_map]; exact small1000 (by omega), ?_⟩
      refine ⟨cs ++ [97 + j], hd5.put nD (hd.ne' hD0), fun b o h n => ?_, by rw [upd_same, List.map_append, List.map_append]; rfl, by rw [List.length_append, hl]; rfl, fun c hc => ?_⟩
      · rw [upd_ne (ne_of_none h hD0)]; exact f5 _ _ (f4 _ _ h n) n
      · rcases List.mem_append.mp hc with q | q
        · exact hz c q
        · rw [List.mem_singleton.mp q]; omega
    · rintro H4 ⟨cs, hd4, f4, e4, hl, hz⟩
      refine ⟨_, D, _, rfl, rfl, .inl (SqL.of e4), ?_, ?_⟩
      · rw [sum_ones, List.length_map]
        have : (Str.ofString "").length = 0 := by decide
        rw [this]
        omega
      · refine k _ H4 ?_ hd4 f4
        have el := join_letters cs
        have ez : (PySem.Txt.join (PySem.Str.ofString "") (cs.map fun c => (⟨#[c]⟩ : Str))).length = cs.length := by
          show (PySem.Txt.join (PySem.Str.ofString "") (cs.map fun c => (⟨#[c]⟩ : Str))).cps.size = _
          rw [← Array.length_toList, el]
        exact ⟨by rw [ez]; omega, by rw [ez]; omega, fun c hc => hz c (by rw [el] at hc; exact hc)⟩
end
end Xci

namespace Xci
open PySem L2

section
variable {P : Program} {w : World} {K : PySem.W.Frag} {mg : Str → Option Value} {base : Heap}
abbrev sLawLots : Stmt := top 52
theorem scLawLots : FnScope ["items", "found", "item", "lot"] ["items"] (defScope sLawLots) := ⟨rfl, rfl, rfl, by decide +kernel, rfl, by decide +kernel, by decide +kernel⟩

theorem ok_lots {f : Addr} {fd : FuncData} (F : Fun K "_law_lots" "_law_lots" sLawLots f fd) : FnOk P w K mg base CX0 1 f fd ["items"] (spLots K) := by
  refine F.ok scLawLots (fun vs H Q E h => ?_) (fun cdv A outer s H vs Q E hr h => ?_)
  · obtain ⟨p, ns, rfl, _⟩ := h
    rfl
  · obtain ⟨p, ns, rfl, hS, hlen, k⟩ := h
    refine ⟨_, (pss_cons (ps_set (i := 1) scLawLots.nd rfl (by first | exact Or.inl rfl | exact Or.inr rfl) (pe_lst (pa_cons (pe_tup pa_nil) pa_nil)))
      (pss_cons (ps_for PassesOwn.never rfl (pi_tup (pv 0)) (pg_name (i := 2) scLawLots.nd rfl (by first | exact Or.inl rfl | exact Or.inr rfl)) (pss_one (ps_set (i := 1) scLawLots.nd rfl (by first | exact Or.inl rfl | exact Or.inr rfl) (pe_op op_cat (pv 1) (pe_lc (own := [("lot", 3)]) rfl scLawLots.nd (pi_list (pv 1)) (blkOk_by (N := ["items", "found", "item", "lot"]) (sc := defScope sLawLots) (by decide +kernel)) (fun _ _ _ _ _ => (pg_name (i := 3) scLawLots.nd rfl (by first | exact Or.inl rfl | exact Or.inr rfl))) (fun _ _ _ _ _ => pts_nil) (fun _ _ _ _ _ => (pe_op (show OpR _ _ (rCatA K) from op_catA) (pv 3) (pe_tup (pa_cons (pv 2) pa_nil)))))))))
      (pss_one (ps_ret (pv 1))))), ?_⟩
    refine ⟨Nat.zero_le _, fun t ht => ⟨(by show 1 ≤ sizeLine; decide), fun q hq => ?_⟩⟩
    have s0 : Same H (upd (upd H t (.tup [])) q (.lst [.ref t])) := (Same.new ht).trans (Same.new hq)
    have et : (upd (upd H t (.tup [])) q (.lst [.ref t])) t = some (.tup []) := by rw [upd_ne (ne_of_none upd_same hq)]; exact upd_same
    have hq0 : H q = Option.none := (Same.new ht).free hq
    have eq : (upd (upd H t (.tup [])) q (.lst [.ref t])) q = some (.lst [.ref t]) := upd_same
    generalize upd (upd H t (.tup [])) q (.lst [.ref t]) = H1 at *
    refine ⟨_, rfl, p, rfl, ⟨_, sqT_same hS s0⟩, for_tup (K := K) (a := p) (xs := ns.map V.int) (fun i σ H2 => ∃ (u : Addr) (ys : List V) (v : Option V), σ = [some (.ref p), some (.ref u), v, none] ∧ Same H H2 ∧ H u = Option.none ∧ H2 u = some (.lst ys) ∧ Mks H2 ys (lots (ns.take i)))
      ⟨q, [.ref t], none, rfl, s0, hq0, eq, Paired.one ⟨t, rfl, et⟩⟩ (fun i σ H2 _ ⟨_, _, _, _, e, _⟩ => sqT_same hS e) ?_ ?_⟩
    · rintro i y σ H2 hi ⟨u, ys, v, rfl, sm, hu0, eu, hm⟩
      obtain ⟨x, hx, rfl⟩ := int_of hi
      have hlt := (List.getElem?_eq_some_iff.mp hx).1
      have hys : ys.length ≤ 64 := by
        have e := Paired.length hm
        rw [lots_len, List.length_take] at e
        have : 2 ^ min i ns.length ≤ 2 ^ 6 := Nat.pow_le_pow_right (by decide) (by omega)
        omega
      refine ⟨_, rfl, _, rfl, u, rfl, ⟨_, SqL.of eu⟩, fun D hD => ?_⟩
      have hD0 : H D = Option.none := sm.free hD
      refine lc_list (K := K) (a := u) (xs := ys) (fun j H4 => ∃ zs : List V, Same H2 H4 ∧ H4 D = some (.lst zs) ∧ Mks H4 zs (((lots (ns.take i)).take j).map (· ++ [x]))) ⟨[], Same.new hD, upd_same, .nil⟩ (fun j H4 _ ⟨_, e, _⟩ => SqL.of (e _ _ eu)) ?_ ?_
      · rintro j lot H4 hj ⟨zs, sm4, e4, m4⟩
        obtain ⟨ms, hms, tl⟩ := Paired.get hm hj
        obtain ⟨tp, rfl, htp⟩ := tl
        have htp4 := sm4 _ _ htp
        have hjl := (List.getElem?_eq_some_iff.mp hj).1
        have hzl : zs.length ≤ 64 := by
          have e := Paired.length m4
          rw [List.length_map, List.length_take] at e
          omega
        have et : ((lots (ns.take i)).take (j + 1)).map (· ++ [x]) = ((lots (ns.take i)).take j).map (· ++ [x]) ++ [ms ++ [x]] := by
          rw [List.take_add_one, hms, List.map_append]
          rfl
        refine ⟨rfl, _, rfl, _, rfl, (by show 1 ≤ sizeLine; decide), fun r hr => ?_⟩
        have e5 : (upd H4 r (.tup [.int x])) r = some (.tup [.int x]) := upd_same
        have sm5 : Same H4 (upd H4 r (.tup [.int x])) := Same.new hr
        generalize upd H4 r (.tup [.int x]) = H5 at *
        have nDr : ∀ {c : Addr} {o : HO}, H2 c = some o → c ≠ D := fun h => ne_of_none h hD
        have mkl : ms.length ≤ 64 := by
          have q := (lots_sub (List.mem_of_getElem? hms)).length_le
          rw [List.length_take] at q
          omega
        refine ⟨tp, r, _, _, rfl, rfl, sqT (sm5 _ _ htp4), sqT e5, ?_, fun hnil => ?_, ?_, fun hne hne2 z hz => ?_⟩
        · rw [List.length_map]
          show ms.length + 1 ≤ sizeLine
          exact Nat.le_of_lt (small1000 (by omega))
        · refine ⟨zs, sm5 _ _ e4, small1000 (by omega), ?_⟩
          refine ⟨zs ++ [.ref r], fun b o h => by rw [upd_ne (nDr h)]; exact sm5 _ _ (sm4 _ _ h), upd_same, ?_⟩
          rw [et]
          have hms0 : ms = [] := by cases ms with
            | nil => rfl
            | cons a b => cases hnil
          subst hms0
          have tf : TFr H5 (upd H5 D (.lst (zs ++ [.ref r]))) := TFr.lst (sm5 _ _ e4)
          exact Paired.app ((m4.keep (TFr.same sm5)).keep tf) (Paired.one ⟨r, rfl, tf _ _ e5⟩)
        · intro _ hy
          cases hy
        · have e6 : (upd H5 z (.tup (ms.map V.int ++ [.int x]))) z = some (.tup (ms.map V.int ++ [.int x])) := upd_same
          have sm6 : Same H5 (upd H5 z (.tup (ms.map V.int ++ [.int x]))) := Same.new hz
          generalize upd H5 z (.tup (ms.map V.int ++ [.int x])) = H6 at *
          refine ⟨zs, sm6 _ _ (sm5 _ _ e4), small1000 (by omega), ?_⟩
          refine ⟨zs ++ [.ref z], fun b o h => by rw [upd_ne (nDr h)]; exact sm6 _ _ (sm5 _ _ (sm4 _ _ h)), upd_same, ?_⟩
          rw [et]
          have tf : TFr H6 (upd H6 D (.lst (zs ++ [.ref z]))) := TFr.lst (sm6 _ _ (sm5 _ _ e4))
          exact Paired.app ((m4.keep (TFr.same (sm5.trans sm6))).keep tf) (Paired.one ⟨z, rfl, by rw [List.map_append]; exact tf _ _ e6⟩)
      · rintro H4 ⟨zs, sm4, e4, m4⟩
        rw [List.take_of_length_le (by rw [Paired.length hm]; exact Nat.le_refl _)] at m4
        have hzl := Paired.length m4
        rw [List.length_map, ← Paired.length hm] at hzl
        refine ⟨u, D, ys, zs, rfl, rfl, sm4 _ _ eu, e4, Nat.le_of_lt (small1000 (by omega)), fun r hr => ?_⟩
        have sr : Same H4 (upd H4 r (.lst (ys ++ zs))) := Same.new hr
        refine ⟨r, ys ++ zs, some (.int x), rfl, (sm.trans sm4).trans sr, (sm.trans sm4).free hr, upd_same, ?_⟩
        have et : ns.take (i + 1) = ns.take i ++ [x] := by rw [List.take_add_one, hx]; rfl
        rw [et, lots_snoc]
        exact Paired.app (hm.keep (TFr.same (sm4.trans sr))) (m4.keep (TFr.same sr))
    · rintro σ H2 ⟨u, ys, v, rfl, sm, hu0, eu, hm⟩
      rw [List.length_map, List.take_length] at hm
      exact ⟨_, rfl, k u ys H2 eu hm sm hu0⟩
end
end Xci

namespace Xci
open PySem L2

section
variable {P : Program} {w : World} {K : PySem.W.Frag} {mg : Str → Option Value} {base : Heap}
abbrev sLawWords : Stmt := top 51
theorem scLawWords : FnScope ["deck", "most", "found", "turn", "word"] ["deck", "most"] (defScope sLawWords) := ⟨rfl, rfl, rfl, by decide +kernel, rfl, by decide +kernel, by decide +kernel⟩

theorem ok_words {f : Addr} {fd : FuncData} (F : Fun K "_law_words" "_law_words" sLawWords f fd) (T : Txt mg) (HT : Has P w K mg base "_law_take" ["deck", "many"] 1 spTake) (HW : Has P w K mg base "_law_word" ["deck"] 2 spWord) : FnOk P w K mg base CX0 3 f fd ["deck", "most"] spWords := by
  refine F.ok scLawWords (fun vs H Q E h => ?_) (fun cdv A outer s H vs Q E hr h => ?_)
  · obtain ⟨a, ld, m, rfl, _⟩ := h
    rfl
  · obtain ⟨a, ld, m, rfl, hd, hm0, hm1, k⟩ := h
    refine ⟨_, (pss_cons (ps_set (i := 2) scLawWords.nd rfl (by first | exact Or.inl rfl | exact Or.inr rfl) (pe_lst pa_nil))
      (pss_cons (ps_for PassesOwn.never rfl (pi_range1 rfl T.range (pa_cons (pe_op op_add pe_int (pe_callH HT (hr.mono (by decide)) rfl (pa_cons (pv 0) (pa_cons (pv 1) pa_nil)))) pa_nil)) (pg_name (i := 3) scLawWords.nd rfl (by first | exact Or.inl rfl | exact Or.inr rfl)) (pss_cons (ps_set (i := 4) scLawWords.nd rfl (by first | exact Or.inl rfl | exact Or.inr rfl) (pe_callH HW (hr.mono (by decide)) rfl (pa_cons (pv 0) pa_nil)))
      (pss_one (ps_if (pt_cmpR op_notIn_seq (pv 4) (pv 2) (by with_unfolding_all rfl)) (pss_one (ps_expr (pe_bm PySem.F.plainAttrs_list PySem.F.slot_list_append PySem.F.type_list_append mt_append (pv 2) (pa_cons (pv 4) pa_nil)))) pss_nil))))
      (pss_one (ps_ret (pv 2))))), ?_⟩
    refine ⟨Nat.zero_le _, fun q hq => ?_⟩
    have d1 : Deck (upd H q (.lst [])) a ld := hd.keep (Same.new hq)
    have f1 : Fr a H (upd H q (.lst [])) := Fr.new hq
    have nq := hd.ne hq
    have mq := hd.ne' hq
    have eq : (upd H q (.lst [])) q = some (.lst []) := upd_same
    generalize upd H q (.lst []) = H1 at *
    refine ⟨_, rfl, _, rfl, a, ld, m, rfl, d1, hm0, by omega, fun d H2 d0 d1' hd2 f2 _ => ?_⟩
    refine ⟨_, _, rfl, rfl, _, rfl, by omega, by omega, ?_⟩
    refine for_range (n := (1 + d).toNat) (fun i σ H3 => ∃ (zs : List Str) (v v' : Option V), σ = [some (.ref a), some (.int m), some (.ref q), v, v'] ∧ H3 q = some (.lst (zs.map V.str)) ∧ Deck H3 a ld ∧ Fr a H H3 ∧ zs.length ≤ i ∧ (1 ≤ i → zs ≠ []) ∧ zs.Nodup ∧ ∀ z ∈ zs, WordOk z)
      ⟨[], none, none, rfl, f2 _ _ eq nq, hd2, f1.trans f2, Nat.zero_le _, fun h => by omega, by simp, by simp⟩ ?_ ?_
    · rintro i σ H3 hi ⟨zs, v, v', rfl, e3, hd3, f3, hl, hne, hnd, hz⟩
      refine ⟨_, rfl, a, ld, rfl, hd3, fun z H4 wz hd4 f4 => ?_⟩
      have e4 := f4 _ _ e3 nq
      refine ⟨_, rfl, _, rfl, q, _, rfl, .inl (SqL.of e4), rfl, flat_strs zs, _, rfl, ?_⟩
      rw [inV_str]
      refine ite2 (fun hn => ?_) (fun hn => ?_)
      · have hn' : ¬ z ∈ zs := by simpa using hn
        refine ⟨_, rfl, .inl ⟨rfl, _, SqL.of e4⟩, _, rfl, q, _, _, rfl, rfl, e4, by rw [List.length_map]; exact small1000 (by omega), ?_⟩
        refine ⟨zs ++ [z], _, _, rfl, by rw [upd_same, List.map_append]; rfl, hd4.put nq mq, fun b o h n => by rw [upd_ne (ne_of_none h hq)]; exact f4 _ _ (f3 _ _ h n) n, by rw [List.length_append]; exact Nat.succ_le_succ hl, fun _ => by simp, ?_, fun y hy => ?_⟩
        · exact List.nodup_append.mpr ⟨hnd, by simp, fun x hx y hy e => hn' (by rw [← List.mem_singleton.mp hy, ← e]; exact hx)⟩
        · rcases List.mem_append.mp hy with h | h
          · exact hz y h
          · rw [List.mem_singleton.mp h]; exact wz
      · have hin : z ∈ zs := by simpa using hn
        exact ⟨zs, _, _, rfl, e4, hd4, f3.trans f4, by omega, fun _ e => (by rw [e] at hin; simp at hin), hnd, hz⟩
    · rintro σ H3 ⟨zs, v, v', rfl, e3, hd3, f3, hl, hne, hnd, hz⟩
      exact ⟨_, rfl, k q zs H3 (hne (by omega)) (by omega) hnd hz e3 hq hd3 f3⟩
end
end Xci

namespace Xci
open PySem L2

section
variable {P : Program} {w : World} {K : PySem.W.Frag} {mg : Str → Option Value} {base : Heap}
abbrev sIsInteger : Stmt := top 9
theorem scIsInteger : FnScope ["thing"] ["thing"] (defScope sIsInteger) := ⟨rfl, rfl, rfl, by decide +kernel, rfl, by decide +kernel, by decide +kernel⟩

theorem ok_integer {f : Addr} {fd : FuncData} (F : Fun K "is_integer" "is_integer" sIsInteger f fd) (T : Txt mg) : FnOk P w K mg base CX0 1 f fd ["thing"] spIsInteger := by
  refine F.ok scIsInteger (fun vs H Q E h => ?_) (fun cdv A outer s H vs Q E hr h => ?_)
  · obtain ⟨i, rfl, _⟩ := h
    rfl
  · obtain ⟨i, rfl, k⟩ := h
    refine ⟨_, (pss_one (ps_ret (pe_and (pe_callB call_isi rfl T.isinstance (by decide +kernel) (pa_cons (pv 0) (pa_cons (pe_bltn rfl T.int (by decide +kernel) (v := V.ty "int") rfl) pa_nil))) (pe_one (pe_not (pe_callB call_isi rfl T.isinstance (by decide +kernel) (pa_cons (pv 0) (pa_cons (pe_bltn rfl T.bool (by decide +kernel) (v := V.ty "bool") rfl) pa_nil)))))))), ?_⟩
    refine ⟨_, rfl, _, _, _, _, true, rfl, .ty _, .base (.int _), kit_ty (by decide +kernel), _, rfl, ?_⟩
    exact ⟨_, rfl, _, _, _, _, false, rfl, .ty _, .base (.int _), kit_ty (by decide +kernel), _, rfl, k⟩
abbrev sIsBetween : Stmt := top 10
theorem scIsBetween : FnScope ["low", "high", "thing"] ["low", "high", "thing"] (defScope sIsBetween) := ⟨rfl, rfl, rfl, by decide +kernel, rfl, by decide +kernel, by decide +kernel⟩

theorem ok_between {f : Addr} {fd : FuncData} (F : Fun K "is_between" "is_between" sIsBetween f fd) (HI : Has P w K mg base "is_integer" ["thing"] 1 spIsInteger) : FnOk P w K mg base CX0 2 f fd ["low", "high", "thing"] spBetween := by
  refine F.ok scIsBetween (fun vs H Q E h => ?_) (fun cdv A outer s H vs Q E hr h => ?_)
  · obtain ⟨lo, hi, x, rfl, _⟩ := h
    rfl
  · obtain ⟨lo, hi, x, rfl, k⟩ := h
    refine ⟨_, (pss_one (ps_ret (pe_and (pe_callH HI (hr.mono (by decide)) rfl (pa_cons (pv 2) pa_nil)) (pe_one (pe_chain op_le op_le (pv 0) (pv 2) (pv 1)))))), ?_⟩
    refine ⟨_, rfl, x, rfl, _, rfl, ?_⟩
    refine ⟨_, rfl, _, rfl, _, _, rfl, rfl, _, rfl, ?_⟩
    refine ite2 (fun h1 => ?_) (fun h1 => ?_)
    · have h1' : lo ≤ x := of_decide_eq_true h1
      refine ⟨_, rfl, _, _, rfl, rfl, ?_⟩
      have e : decide (lo ≤ x ∧ x ≤ hi) = decide (x ≤ hi) := by simp [h1']
      rw [e] at k
      exact k
    · have h1' : ¬ lo ≤ x := fun q => h1 (decide_eq_true q)
      have e : decide (lo ≤ x ∧ x ≤ hi) = false := by simp [h1']
      rw [e] at k
      exact k
abbrev sIsCell : Stmt := top 11
theorem scIsCell : FnScope ["many", "thing", "lowest", "mark"] ["many", "thing"] (defScope sIsCell) := ⟨rfl, rfl, rfl, by decide +kernel, rfl, by decide +kernel, by decide +kernel⟩

theorem ok_cell {f : Addr} {fd : FuncData} (F : Fun K "is_cell" "is_cell" sIsCell f fd) (T : Txt mg) (HB : Has P w K mg base "is_between" ["low", "high", "thing"] 2 spBetween) : FnOk P w K mg base CX0 3 f fd ["many", "thing"] spIsCell := by
  refine F.ok scIsCell (fun vs H Q E h => ?_) (fun cdv A outer s H vs Q E hr h => ?_)
  · obtain ⟨n, v, ms, rfl, _⟩ := h
    rfl
  · obtain ⟨n, v, ms, rfl, ⟨p, rfl, hp⟩, ok, k⟩ := h
    refine ⟨_, (pss_cons (ps_if (pt_not (pt_val (pe_callB call_isi rfl T.isinstance (by decide +kernel) (pa_cons (pv 1) (pa_cons (pe_bltn rfl T.tuple (by decide +kernel) (v := V.ty "tuple") rfl) pa_nil))))) (pss_one (ps_ret pe_bl)) pss_nil)
      (pss_cons (ps_set (i := 2) scIsCell.nd rfl (by first | exact Or.inl rfl | exact Or.inr rfl) pe_int)
      (pss_cons (ps_for PassesOwn.never rfl (pi_tup (pv 1)) (pg_name (i := 3) scIsCell.nd rfl (by first | exact Or.inl rfl | exact Or.inr rfl)) (pss_cons (ps_if (pt_not (pt_val (pe_callH HB (hr.mono (by decide)) rfl (pa_cons (pv 2) (pa_cons (pe_op op_sub (pv 0) pe_int) (pa_cons (pv 3) pa_nil)))))) (pss_one (ps_ret pe_bl)) pss_nil)
      (pss_one (ps_set (i := 2) scIsCell.nd rfl (by first | exact Or.inl rfl | exact Or.inr rfl) (pe_op op_add (pv 3) pe_int)))))
      (pss_one (ps_ret pe_bl))))), ?_⟩
    refine ⟨_, rfl, _, _, _, _, true, rfl, .ty _, .base (.tup hp), kit_ty (by decide +kernel), _, rfl, ?_⟩
    refine iteF ?_
    refine ⟨_, rfl, p, rfl, ⟨_, sqT hp⟩, for_tup (K := K) (a := p) (xs := ms.map V.int) (fun i σ H2 => H2 = H ∧ ∃ (z : Int) (v : Option V), σ = [some (.int n), some (.ref p), some (.int z), v] ∧ ∀ m, ms[i]? = some m → z ≤ m) ⟨rfl, 0, none, rfl, fun m hm => ok.lo m (List.mem_of_getElem? hm)⟩ (fun i σ H2 _ ⟨e, _⟩ => by rw [e]; exact sqT hp) ?_ ?_⟩
    · rintro i y σ H2 hi ⟨rfl, z, v, rfl, hz⟩
      obtain ⟨m, hm, rfl⟩ := int_of hi
      have mem := List.mem_of_getElem? hm
      have h1 := hz m hm
      have h2 := ok.hi m mem
      refine ⟨_, rfl, _, rfl, _, _, rfl, rfl, _, rfl, _, _, m, rfl, _, rfl, ?_⟩
      have e : decide (z ≤ m ∧ m ≤ n - 1) = true := decide_eq_true ⟨h1, by omega⟩
      refine ite2 (fun hf => ?_) (fun _ => ?_)
      · have hf' : (!decide (z ≤ m ∧ m ≤ n - 1)) = true := hf
        rw [e] at hf'
        cases hf'
      · refine ⟨_, rfl, _, _, rfl, rfl, ?_⟩
        refine ⟨rfl, m + 1, _, rfl, fun m' hm' => ?_⟩
        have hlt1 := (List.getElem?_eq_some_iff.mp hm)
        have hlt2 := (List.getElem?_eq_some_iff.mp hm')
        obtain ⟨l1, e1⟩ := hlt1
        obtain ⟨l2, e2⟩ := hlt2
        have := List.pairwise_iff_getElem.mp ok.up i (i + 1) l1 l2 (Nat.lt_succ_self i)
        omega
    · rintro σ H2 ⟨rfl, z, v, rfl, hz⟩
      exact k
abbrev sAreCells : Stmt := top 45
theorem scAreCells : FnScope ["many", "thing", "cell"] ["many", "thing"] (defScope sAreCells) := ⟨rfl, rfl, rfl, by decide +kernel, rfl, by decide +kernel, by decide +kernel⟩

theorem ok_areCells {f : Addr} {fd : FuncData} (F : Fun K "_are_cells" "_are_cells" sAreCells f fd) (T : Txt mg) (TS : mg "set" = none) (c : FamCst mg) (HC : Has P w K mg base "is_cell" ["many", "thing"] 3 spIsCell) : FnOk P w K mg base CX0 4 f fd ["many", "thing"] spAreCells := by
  refine F.ok scAreCells (fun vs H Q E h => ?_) (fun cdv A outer s H vs Q E hr h => ?_)
  · obtain ⟨many, p, ys, cells, rfl, _⟩ := h
    rfl
  · obtain ⟨many, p, ys, cells, rfl, hp, each, ok, k⟩ := h
    refine ⟨_, (pss_cons (ps_if (PW.pt (pw_or (pt_not (pt_val (pe_callB call_isi rfl T.isinstance (by decide +kernel) (pa_cons (pv 1) (pa_cons (pe_bltn rfl T.tuple (by decide +kernel) (v := V.ty "tuple") rfl) pa_nil))))) (pw_or1 (pt_not (pt_chain op_le op_le pe_int (pe_callB call_len rfl T.len PySem.boot_len (pa_cons (pv 1) pa_nil)) (pe_gint rfl c.MOST_CELLS)))))) (pss_one (ps_ret pe_bl)) pss_nil)
      (pss_cons (ps_for PassesOwn.never rfl (pi_tup (pv 1)) (pg_name (i := 2) scAreCells.nd rfl (by first | exact Or.inl rfl | exact Or.inr rfl)) (pss_one (ps_if (pt_not (pt_val (pe_callH HC (hr.mono (by decide)) rfl (pa_cons (pv 0) (pa_cons (pv 2) pa_nil))))) (pss_one (ps_ret pe_bl)) pss_nil)))
      (pss_one (ps_ret (pe_cmpR op_eq (pe_lenSetT rfl (hu64 hr) rfl T.len rfl TS (pv 1)) (pe_callB call_len rfl T.len PySem.boot_len (pa_cons (pv 1) pa_nil)) (nomark _)))))), ?_⟩
    have len := Paired.length each
    have pos : 0 < cells.length := List.length_pos_iff.mpr ok.ne
    have few := ok.len
    refine ⟨_, rfl, _, _, _, _, true, rfl, .ty _, .base (.tup hp), kit_ty (by decide +kernel), _, rfl, ?_⟩
    refine iteF ?_
    refine ⟨_, rfl, _, ys.length, rfl, .inr ⟨_, sqT hp, rfl⟩, _, _, rfl, rfl, _, rfl, ?_⟩
    refine ite2 (fun _ => ?_) (fun no => absurd (decide_eq_true (show (1 : Int) ≤ ((ys.length : Nat) : Int) by omega)) no)
    refine ⟨_, _, rfl, rfl, _, rfl, ?_⟩
    refine ite2 (fun no => ?_) (fun _ => ?_)
    · have no' : (!decide (((ys.length : Nat) : Int) ≤ (24 : Int))) = true := no
      rw [decide_eq_true (show ((ys.length : Nat) : Int) ≤ (24 : Int) by omega)] at no'
      cases no'
    refine ⟨_, rfl, p, rfl, ⟨_, sqT hp⟩, for_tup (K := K) (a := p) (xs := ys) (fun i σ H2 => H2 = H ∧ ∃ v : Option V, σ = [some (.int many), some (.ref p), v]) ⟨rfl, none, rfl⟩ (fun i σ H2 _ ⟨e, _⟩ => by rw [e]; exact sqT hp) ?_ ?_⟩
    · rintro i y σ H2 hi ⟨rfl, v, rfl⟩
      obtain ⟨ms, at_, told⟩ := Paired.get each hi
      refine ⟨_, rfl, _, rfl, many, y, ms, rfl, told, ok.ok ms (List.mem_of_getElem? at_), _, rfl, ?_⟩
      exact iteF ⟨rfl, _, rfl⟩
    · rintro σ H2 ⟨rfl, v, rfl⟩
      obtain ⟨ks, e1, e2, e3⟩ := Mks.placed (K := K) each
      have same : ks.length = ys.length := by rw [e1, List.length_map]
      refine ⟨_, rfl, p, ks, rfl, (by rw [← e1]; exact sqT hp), e3, (by omega), fun n _ all => ?_⟩
      have full : n = ks.length := all.mpr (by rw [e2]; exact ok.nd)
      refine ⟨_, rfl, _, ys.length, rfl, .inr ⟨_, sqT hp, rfl⟩, ?_⟩
      rw [full, same]
      refine ⟨rfl, ?_⟩
      rw [decide_eq_true (show V.int ((ys.length : Nat) : Int) = V.int ((ys.length : Nat) : Int) from rfl)]
      exact k
abbrev sFamilyInit : Stmt := inClass (top 44) 0
theorem scFamilyInit : FnScope ["self", "many", "cells"] ["self", "many", "cells"] (defScope sFamilyInit) := ⟨rfl, rfl, rfl, by decide +kernel, rfl, by decide +kernel, by decide +kernel⟩

theorem ok_fam {f C : Addr} {fd : FuncData} (F : Fun K "__init__" "Family.__init__" sFamilyInit f fd) (T : Txt mg) (c : FamCst mg) (FT : FamTxt K mg C) (HB : Has P w K mg base "is_between" ["low", "high", "thing"] 2 spBetween) (HA : Has P w K mg base "_are_cells" ["many", "thing"] 4 spAreCells) :
    FnOk P w K mg base CX0 5 f fd ["self", "many", "cells"] (spFam C) := by
  refine F.ok scFamilyInit (fun vs H Q E h => ?_) (fun cdv A outer s H vs Q E hr h => ?_)
  · obtain ⟨x, dx, many, p, ys, cells, rfl, _⟩ := h
    rfl
  · obtain ⟨x, dx, many, p, ys, cells, rfl, hx, hp, each, ok, k⟩ := h
    refine ⟨_, (pss_cons (ps_if (pt_not (pt_val (pe_callH HB (hr.mono (by decide)) rfl (pa_cons pe_int (pa_cons (pe_gint rfl c.MOST_MARKS) (pa_cons (pv 1) pa_nil)))))) (pss_one ps_never) pss_nil)
      (pss_cons (ps_if (pt_not (pt_val (pe_callH HA (hr.mono (by decide)) rfl (pa_cons (pv 1) (pa_cons (pv 2) pa_nil))))) (pss_one ps_never) pss_nil)
      (pss_cons (ps_fld (pv 0) (pv 1) rfl)
      (pss_one (ps_fld (pv 0) (pv 2) rfl))))), ?_⟩
    refine ⟨_, rfl, _, _, _, rfl, _, rfl, ?_⟩
    rw [decide_eq_true (show (0 : Int) ≤ many ∧ many ≤ 6 from ⟨ok.lo, ok.hi⟩)]
    refine iteF ?_
    refine ⟨_, rfl, _, rfl, many, p, ys, cells, rfl, hp, each, ok, _, rfl, ?_⟩
    refine iteF ?_
    refine ⟨_, rfl, _, rfl, x, C, dx, [], rfl, hx, FT.cl, FT.nM, (by show 0 < 1000; decide), ?_⟩
    refine ⟨_, rfl, _, rfl, x, C, dx, _, rfl, upd_same, FT.cl, FT.nC, (by show 1 < 1000; decide), ?_⟩
    refine k _ ⟨dx, ?_⟩ fun b o e hb => ?_
    · rw [upd_same, putMany, putCells]
      rfl
    · rw [upd_ne hb, upd_ne hb]
      exact e
end
end Xci

namespace Xci
open PySem L2

section
variable {P : Program} {w : World} {K : PySem.W.Frag} {mg : Str → Option Value} {base : Heap}
abbrev sUnlike : Stmt := top 18
theorem scUnlike : FnScope ["forms", "form"] ["forms"] (defScope sUnlike) := ⟨rfl, rfl, rfl, by decide +kernel, rfl, by decide +kernel, by decide +kernel⟩

theorem ok_unlike {f : Addr} {fd : FuncData} (F : Fun K "_unlike" "_unlike" sUnlike f fd) (T : Txt mg) : FnOk P w K mg base CX0 1 f fd ["forms"] spUnlike := by
  refine F.ok scUnlike (fun vs H Q E h => ?_) (fun cdv A outer s H vs Q E hr h => ?_)
  · obtain ⟨p, fs, rfl, _⟩ := h
    rfl
  · obtain ⟨p, fs, rfl, hp, few, k⟩ := h
    refine ⟨_, (pss_one (ps_ret (pe_callB (cr_sortedTexts rfl) rfl T.sorted (by decide +kernel) (pa_cons (pe_texts (own := [("form", 1)]) rfl scUnlike.nd (pi_tup (pv 0)) (blkOk_by (N := ["forms", "form"]) (sc := defScope sUnlike) (by decide +kernel)) ⟨fun _ _ _ _ _ => (pg_name (i := 1) scUnlike.nd rfl (by first | exact Or.inl rfl | exact Or.inr rfl)), fun _ _ _ _ _ => pts_one (pt_cmpR op_notN (pv 1) pe_non (nomark _)), fun _ _ _ _ _ => (pv 1)⟩) pa_nil)))), ?_⟩
    refine ⟨_, rfl, p, rfl, ⟨_, sqT hp⟩, fun D hD => ⟨fs.length, fun i H2 => ∃ seen : List Str, seen.Nodup ∧ (∀ z, z ∈ seen ↔ some z ∈ fs.take i) ∧ seen.length ≤ i ∧ Same H H2 ∧ H2 D = some (TextsO P w D (fun z => decide (z ∈ seen)) seen.length), ?_, ?_, ?_⟩⟩
    · refine ⟨[], List.nodup_nil, fun z => by simp, Nat.le_refl _, Same.new hD, ?_⟩
      rw [upd_same]
      rfl
    · rintro H2 ⟨seen, nd, all, le, same, at2⟩
      rw [List.take_length] at all
      refine ⟨⟨fs.map formV, sqT (same _ _ hp), by rw [List.length_map]; exact Nat.le_refl _⟩, D, _, _, rfl, at2, by omega, fun xs q up members len free => k q xs _ ⟨up, fun z => ?_, ?_⟩ upd_same (same.trans (Same.new free))⟩
      · rw [members z, decide_eq_true_eq]
        exact all z
      · exact (count_unlike nd fun z => by rw [members z, decide_eq_true_eq]).2.mp len.symm
    · rintro i H2 hi ⟨seen, nd, all, le, same, at2⟩
      have hp2 := same _ _ hp
      refine ⟨⟨fs.map formV, formV fs[i], sqT hp2, by rw [List.getElem?_map, List.getElem?_eq_getElem hi] <;> rfl⟩, fun x H3 told => ?_⟩
      obtain ⟨rfl, told⟩ := told
      have ex : x = formV fs[i] := by
        have z := told _ (sqT hp2)
        rw [List.getElem?_map, List.getElem?_eq_getElem hi] at z
        exact (Option.some.inj z).symm
      subst ex
      have next : fs.take (i + 1) = fs.take i ++ [fs[i]] := by rw [List.take_succ, List.getElem?_eq_getElem hi] <;> rfl
      refine ⟨rfl, _, rfl, rfl, ?_⟩
      cases form : fs[i] with
      | none =>
        refine ⟨_, rfl, ?_⟩
        refine ite2 (fun no => ?_) (fun _ => ⟨seen, nd, fun z => ?_, by omega, same, at2⟩)
        · have no' : (!decide (V.non = V.non)) = true := no
          rw [decide_eq_true rfl] at no'
          cases no'
        · rw [next, form, all z]
          simp
      | some c =>
        refine ⟨_, rfl, ?_⟩
        refine ite2 (fun _ => ?_) (fun no => absurd (show (!decide (V.str c = V.non)) = true by rw [decide_eq_false (fun z : V.str c = V.non => nomatch z)] <;> rfl) no)
        refine ⟨_, rfl, c, _, _, rfl, at2, Nat.lt_of_lt_of_le (Nat.succ_lt_succ (Nat.lt_of_le_of_lt le (Nat.lt_trans hi few))) (by decide), ?_⟩
        have kept : ∀ o, Same H (upd H3 D o) := fun o b u e => by
          rw [upd_ne (ne_of_none e hD)]
          exact same b u e
        by_cases old : c ∈ seen
        · refine ⟨seen, nd, fun z => ?_, by omega, kept _, ?_⟩
          · rw [next, form, List.mem_append, List.mem_singleton, all z]
            constructor
            · exact .inl
            · rintro (h | h)
              · exact h
              · rw [Option.some.inj h]
                exact (all c).mp old
          · rw [upd_same, if_pos (decide_eq_true old)]
            refine congrArg some (congrArg (fun S => TextsO P w D S seen.length) (funext fun j => ?_))
            by_cases e : j = c
            · rw [e, decide_eq_true old] <;> rfl
            · rw [decide_eq_false e, Bool.or_false]
        · refine ⟨c :: seen, List.nodup_cons.mpr ⟨old, nd⟩, fun z => ?_, by rw [List.length_cons]; omega, kept _, ?_⟩
          · rw [next, form, List.mem_append, List.mem_singleton, List.mem_cons, all z]
            constructor
            · rintro (h | h)
              · rw [h]; exact .inr rfl
              · exact .inl h
            · rintro (h | h)
              · exact .inr h
              · exact .inl (Option.some.inj h)
          · rw [upd_same, if_neg (fun q => old (of_decide_eq_true q)), List.length_cons]
            refine congrArg some (congrArg (fun S => TextsO P w D S (seen.length + 1)) (funext fun j => ?_))
            by_cases e : j = c
            · rw [e, decide_eq_false old, decide_eq_true rfl, decide_eq_true List.mem_cons_self] <;> rfl
            · rw [decide_eq_false e, Bool.or_false]
              exact decide_eq_decide.mpr ⟨List.mem_cons_of_mem _, fun h => (List.mem_cons.mp h).resolve_left e⟩
abbrev sIsForm : Stmt := top 12
theorem scIsForm : FnScope ["thing", "letter"] ["thing"] (defScope sIsForm) := ⟨rfl, rfl, rfl, by decide +kernel, rfl, by decide +kernel, by decide +kernel⟩

theorem ok_form {f : Addr} {fd : FuncData} (F : Fun K "is_form" "is_form" sIsForm f fd) (T : Txt mg) (c : FormCst mg) : FnOk P w K mg base CX0 1 f fd ["thing"] spIsForm := by
  refine F.ok scIsForm (fun vs H Q E h => ?_) (fun cdv A outer s H vs Q E hr h => ?_)
  · obtain ⟨z, rfl, _⟩ := h
    rfl
  · obtain ⟨z, rfl, ok, k⟩ := h
    refine ⟨_, (pss_cons (ps_if (PW.pt (pw_or (pt_not (pt_val (pe_callB call_isi rfl T.isinstance (by decide +kernel) (pa_cons (pv 0) (pa_cons (pe_bltn rfl T.str (by decide +kernel) (v := V.ty "str") rfl) pa_nil))))) (pw_or1 (pt_not (pt_chain op_le op_le pe_int (pe_callB call_len rfl T.len PySem.boot_len (pa_cons (pv 0) pa_nil)) (pe_gint rfl c.LONGEST_FORM)))))) (pss_one (ps_ret pe_bl)) pss_nil)
      (pss_cons (ps_for PassesOwn.never rfl (pi_str (pv 0)) (pg_name (i := 1) scIsForm.nd rfl (by first | exact Or.inl rfl | exact Or.inr rfl)) (pss_one (ps_if (pt_not (pt_chain op_le_str op_le_str pe_str (pv 1) pe_str)) (pss_one (ps_ret pe_bl)) pss_nil)))
      (pss_one (ps_ret pe_bl)))), ?_⟩
    refine ⟨_, rfl, _, _, _, _, true, rfl, .ty _, .base (.str _), kit_ty (by decide +kernel), _, rfl, ?_⟩
    refine iteF ?_
    have e1 : decide ((1 : Int) ≤ ((z.length : Nat) : Int)) = true := decide_eq_true (by have := ok.lo; omega)
    have e2 : decide (((z.length : Nat) : Int) ≤ (8 : Int)) = true := decide_eq_true (by have := ok.hi; omega)
    refine ⟨_, rfl, _, z.length, rfl, ⟨Nat.le_of_lt (small1000 (by have := ok.hi; omega)), rfl⟩, _, _, rfl, rfl, _, rfl, ?_⟩
    refine ite2 (fun _ => ?_) (fun hf => absurd e1 hf)
    refine ⟨_, _, rfl, rfl, _, rfl, ?_⟩
    refine ite2 (fun hf => ?_) (fun _ => ?_)
    · have hf' : (!decide (((z.length : Nat) : Int) ≤ (8 : Int))) = true := hf
      rw [e2] at hf'
      cases hf'
    refine ⟨_, rfl, z, rfl, for_it (walk_str (z := z)) (fun i σ H2 => H2 = H ∧ ∃ v : Option V, σ = [some (.str z), v]) ⟨rfl, none, rfl⟩ (fun _ _ _ _ _ => trivial) ?_ ?_⟩
    · rintro i x σ H2 H3 hi ⟨rfl, v, rfl⟩ ⟨rfl, l, hl, rfl⟩
      have mem : l ∈ z.cps.toList := by
        rw [← Array.getElem?_toList] at hl
        exact List.mem_of_getElem? hl
      obtain ⟨b1, b2⟩ := ok.az l mem
      have q1 : (!decide ((⟨#[l]⟩ : Str).cps.toList < (Str.ofString "a").cps.toList)) = true := by
        have : (Str.ofString "a").cps.toList = [97] := by decide +kernel
        rw [this]
        show (!decide ([l] < [97])) = true
        rw [decide_eq_false (fun h => by have := List.cons_lt_cons_iff.mp h; simp at this; omega)]
        rfl
      have q2 : (!decide ((Str.ofString "z").cps.toList < (⟨#[l]⟩ : Str).cps.toList)) = true := by
        have : (Str.ofString "z").cps.toList = [122] := by decide +kernel
        rw [this]
        show (!decide ([122] < [l])) = true
        rw [decide_eq_false (fun h => by have := List.cons_lt_cons_iff.mp h; simp at this; omega)]
        rfl
      refine ⟨_, rfl, _, _, rfl, rfl, _, rfl, ?_⟩
      refine ite2 (fun _ => ?_) (fun hf => absurd q1 hf)
      refine ⟨_, _, rfl, rfl, _, rfl, ?_⟩
      refine ite2 (fun hf => ?_) (fun _ => ⟨rfl, _, rfl⟩)
      have hf' : (!(!decide ((Str.ofString "z").cps.toList < (⟨#[l]⟩ : Str).cps.toList))) = true := hf
      rw [q2] at hf'
      cases hf'
    · rintro σ H2 ⟨rfl, v, rfl⟩
      exact k
abbrev sAreForms : Stmt := top 17
theorem scAreForms : FnScope ["length", "thing", "form"] ["length", "thing"] (defScope sAreForms) := ⟨rfl, rfl, rfl, by decide +kernel, rfl, by decide +kernel, by decide +kernel⟩

theorem ok_areForms {f : Addr} {fd : FuncData} (F : Fun K "_are_forms" "_are_forms" sAreForms f fd) (T : Txt mg) (c : TabCst mg) (HF : Has P w K mg base "is_form" ["thing"] 1 spIsForm) (HU : Has P w K mg base "_unlike" ["forms"] 1 spUnlike) : FnOk P w K mg base CX0 2 f fd ["length", "thing"] spAreForms := by
  refine F.ok scAreForms (fun vs H Q E h => ?_) (fun cdv A outer s H vs Q E hr h => ?_)
  · obtain ⟨n, p, fs, rfl, _⟩ := h
    rfl
  · obtain ⟨n, p, fs, rfl, hp, ok, k⟩ := h
    refine ⟨_, (pss_cons (ps_if (PW.pt (pw_or (pt_not (pt_val (pe_callB call_isi rfl T.isinstance (by decide +kernel) (pa_cons (pv 1) (pa_cons (pe_bltn rfl T.tuple (by decide +kernel) (v := V.ty "tuple") rfl) pa_nil))))) (pw_or1 (pt_cmpR op_ne (pe_callB call_len rfl T.len PySem.boot_len (pa_cons (pv 1) pa_nil)) (pv 0) (nomark _))))) (pss_one (ps_ret pe_bl)) pss_nil)
      (pss_cons (ps_for PassesOwn.never rfl (pi_tup (pv 1)) (pg_name (i := 2) scAreForms.nd rfl (by first | exact Or.inl rfl | exact Or.inr rfl)) (pss_one (ps_if (PW.pt (pw_and (pt_cmpR op_notN (pv 2) pe_non (nomark _)) (pw_and1 (pt_not (pt_val (pe_callH HF (hr.mono (by decide)) rfl (pa_cons (pv 2) pa_nil))))))) (pss_one (ps_ret pe_bl)) pss_nil)))
      (pss_one (ps_ret (pe_cmpR op_le (pe_callB call_len rfl T.len PySem.boot_len (pa_cons (pe_callH HU (hr.mono (by decide)) rfl (pa_cons (pv 1) pa_nil)) pa_nil)) (pe_gint rfl c.MOST_FORMS) (nomark _)))))), ?_⟩
    have size : (fs.map formV).length = n := by rw [List.length_map]; exact ok.len
    have few := ok.few
    refine ⟨_, rfl, _, _, _, _, true, rfl, .ty _, .base (.tup hp), kit_ty (by decide +kernel), _, rfl, ?_⟩
    refine iteF ?_
    refine ⟨_, rfl, _, n, rfl, .inr ⟨_, sqT hp, size.symm⟩, _, rfl, rfl, _, rfl, ?_⟩
    refine ite2 (fun no => ?_) (fun _ => ?_)
    · have no' : (!decide (V.int (n : Int) = V.int (n : Int))) = true := no
      rw [decide_eq_true rfl] at no'
      cases no'
    refine ⟨_, rfl, p, rfl, ⟨_, sqT hp⟩, for_tup (K := K) (a := p) (xs := fs.map formV) (fun i σ H2 => H2 = H ∧ ∃ v : Option V, σ = [some (.int n), some (.ref p), v]) ⟨rfl, none, rfl⟩ (fun i σ H2 _ ⟨e, _⟩ => by rw [e]; exact sqT hp) ?_ ?_⟩
    · rintro i y σ H2 hi ⟨rfl, v, rfl⟩
      rw [List.getElem?_map] at hi
      obtain ⟨form, at_, rfl⟩ := Option.map_eq_some_iff.mp hi
      refine ⟨_, rfl, rfl, _, rfl, ?_⟩
      cases form with
      | none =>
        refine ite2 (fun no => ?_) (fun _ => iteF ⟨rfl, _, rfl⟩)
        have no' : (!decide (V.non = V.non)) = true := no
        rw [decide_eq_true rfl] at no'
        cases no'
      | some z =>
        refine ite2 (fun _ => ?_) (fun no => absurd (show (!decide (V.str z = V.non)) = true by rw [decide_eq_false (fun q : V.str z = V.non => nomatch q)] <;> rfl) no)
        refine ⟨_, rfl, z, rfl, ok.word z (List.mem_of_getElem? at_), _, rfl, ?_⟩
        exact iteF ⟨rfl, _, rfl⟩
    · rintro σ H2 ⟨rfl, v, rfl⟩
      refine ⟨_, rfl, p, fs, rfl, hp, (by rw [ok.len]; omega), fun q zs H' rise hq same => ⟨_, zs.length, rfl, .inl ⟨_, SqL.of hq, by rw [List.length_map]⟩, _, _, rfl, rfl, ?_⟩⟩
      show Q (V.bl (decide (((zs.length : Nat) : Int) ≤ 12))) H'
      rw [decide_eq_true (show ((zs.length : Nat) : Int) ≤ 12 from by have := ok.unlike zs rise; omega)]
      exact k _ same
abbrev sTableInit : Stmt := inClass (top 16) 0
theorem scTableInit : FnScope ["self", "family", "forms"] ["self", "family", "forms"] (defScope sTableInit) := ⟨rfl, rfl, rfl, by decide +kernel, rfl, by decide +kernel, by decide +kernel⟩

theorem ok_table {f C CF : Addr} {fd : FuncData} (F : Fun K "__init__" "Table.__init__" sTableInit f fd) (T : Txt mg) (TT : TabTxt K mg C) (FT : FamTxt K mg CF) (HA : Has P w K mg base "_are_forms" ["length", "thing"] 2 spAreForms) :
    FnOk P w K mg base CX0 3 f fd ["self", "family", "forms"] (spTab CF C) := by
  refine F.ok scTableInit (fun vs H Q E h => ?_) (fun cdv A outer s H vs Q E hr h => ?_)
  · obtain ⟨x, dx, fam, many, pc, ys, p, fs, rfl, _⟩ := h
    rfl
  · obtain ⟨x, dx, fam, many, pc, ys, p, fs, rfl, hx, ⟨df, hf⟩, ne, hc, hp, ok, k⟩ := h
    refine ⟨_, (pss_cons (ps_if (pt_not (pt_val (pe_callH HA (hr.mono (by decide)) rfl (pa_cons (pe_callB call_len rfl T.len PySem.boot_len (pa_cons (pe_fld (pv 1) rfl) pa_nil)) (pa_cons (pv 2) pa_nil))))) (pss_one ps_never) pss_nil)
      (pss_cons (ps_fld (pv 0) (pv 1) rfl)
      (pss_one (ps_fld (pv 0) (pv 2) rfl)))), ?_⟩
    refine ⟨_, rfl, fam, CF, df, _, _, rfl, hf, FT.cl, FT.nC, famF_cells _ _, _, ys.length, rfl, .inr ⟨_, sqT hc, rfl⟩, _, rfl, ys.length, p, fs, rfl, hp, ok, fun H' same => ?_⟩
    refine ⟨_, rfl, ?_⟩
    refine iteF ?_
    refine ⟨_, rfl, _, rfl, x, C, dx, [], rfl, same _ _ hx, TT.cl, TT.nF, (by show 0 < 1000; decide), ?_⟩
    refine ⟨_, rfl, _, rfl, x, C, dx, _, rfl, upd_same, TT.cl, TT.nO, (by show 1 < 1000; decide), ?_⟩
    refine k _ ⟨dx, ?_⟩ fun b o e hb => ?_
    · rw [upd_same, putFamily, putForms]
      rfl
    · rw [upd_ne hb, upd_ne hb]
      exact same b o e
end
end Xci

namespace Xci
open PySem L2

section
variable {P : Program} {w : World} {K : PySem.W.Frag} {mg : Str → Option Value} {base : Heap}
abbrev sLawIn : Stmt := top 53
theorem scLawIn : FnScope ["one", "other", "mark"] ["one", "other"] (defScope sLawIn) := ⟨rfl, rfl, rfl, by decide +kernel, rfl, by decide +kernel, by decide +kernel⟩

theorem out_nil (ms ns : List Int) : decide (V.int (((ms.filter fun m => !decide (m ∈ ns)).length : Nat) : Int) = V.int 0) = inside ms ns := by
  unfold inside
  induction ms with
  | nil => rfl
  | cons m r ih =>
    rw [List.all_cons, List.filter_cons]
    by_cases h : m ∈ ns
    · simp only [h, decide_true, Bool.not_true, Bool.true_and]
      exact ih
    · simp [h]
      omega
theorem ok_in {f : Addr} {fd : FuncData} (F : Fun K "_law_in" "_law_in" sLawIn f fd) (T : Txt mg) : FnOk P w K mg base CX0 1 f fd ["one", "other"] spIn := by
  refine F.ok scLawIn (fun vs H Q E h => ?_) (fun cdv A outer s H vs Q E hr h => ?_)
  · obtain ⟨u, v, ms, ns, rfl, _⟩ := h
    rfl
  · obtain ⟨u, v, ms, ns, rfl, ⟨p, rfl, hp⟩, ⟨q, rfl, hq⟩, hl, k⟩ := h
    refine ⟨_, (pss_one (ps_ret (pe_cmpR op_eq (pe_callB call_len rfl T.len PySem.boot_len (pa_cons (pe_lc (own := [("mark", 2)]) rfl scLawIn.nd (pi_tup (pv 0)) (blkOk_by (N := ["one", "other", "mark"]) (sc := defScope sLawIn) (by decide +kernel)) (fun _ _ _ _ _ => (pg_name (i := 2) scLawIn.nd rfl (by first | exact Or.inl rfl | exact Or.inr rfl))) (fun _ _ _ _ _ => pts_one (pt_cmpR (show OpR _ _ (rIn K true) from op_notIn_seq) (pv 2) (pv 1) (by with_unfolding_all rfl))) (fun _ _ _ _ _ => (pv 2))) pa_nil)) pe_int (nomark _)))), ?_⟩
    refine ⟨_, rfl, p, rfl, ⟨_, sqT hp⟩, fun D hD => ?_⟩
    refine lc_tup (K := K) (a := p) (xs := ms.map V.int) (fun i H4 => Same H H4 ∧ H4 D = some (.lst (((ms.take i).filter fun m => !decide (m ∈ ns)).map V.int))) ⟨Same.new hD, upd_same⟩ (fun i H4 _ ⟨e, _⟩ => sqT (e _ _ hp)) ?_ ?_
    · rintro i y H4 hi ⟨sm, e4⟩
      obtain ⟨m, hm, rfl⟩ := int_of hi
      refine ⟨rfl, _, rfl, _, rfl, q, _, rfl, .inr (sqT (sm _ _ hq)), rfl, flat_ints ns, _, rfl, ?_⟩
      rw [inV_int]
      have et : ms.take (i + 1) = ms.take i ++ [m] := by rw [List.take_add_one, hm]; rfl
      refine ite2 (fun hn => ?_) (fun hn => ?_)
      · have hn' : (!decide (m ∈ ns)) = true := hn
        refine ⟨_, rfl, _, e4, ?_, fun b o h => by rw [upd_ne (ne_of_none h hD)]; exact sm b o h, ?_⟩
        · rw [List.length_map]
          exact small1000 (Nat.le_trans (List.length_filter_le _ _) (by rw [List.length_take]; omega))
        · rw [upd_same, et, List.filter_append, List.map_append]
          simp only [List.filter_cons, hn', if_true, List.filter_nil, List.map_cons, List.map_nil]
      · have hn' : (!decide (m ∈ ns)) = false := by
          cases hh : (!decide (m ∈ ns)) with
          | false => rfl
          | true => exact absurd hh hn
        refine ⟨sm, ?_⟩
        rw [e4, et, List.filter_append]
        simp [List.filter_cons, hn']
    · rintro H4 ⟨sm, e4⟩
      rw [List.length_map, List.take_length] at e4
      refine ⟨_, _, rfl, .inl ⟨_, SqL.of e4, rfl⟩, rfl, ?_⟩
      rw [List.length_map, out_nil]
      exact k H4 sm
end
end Xci

namespace Xci
open PySem L2

section
variable {P : Program} {w : World} {K : PySem.W.Frag} {mg : Str → Option Value} {base : Heap}
abbrev sLawMarks : Stmt := top 55
theorem scLawMarks : FnScope ["deck", "cells", "mark", "cell"] ["deck", "cells"] (defScope sLawMarks) := ⟨rfl, rfl, rfl, by decide +kernel, rfl, by decide +kernel, by decide +kernel⟩

theorem ok_marks {f : Addr} {fd : FuncData} (F : Fun K "_law_marks" "_law_marks" sLawMarks f fd) (T : Txt mg) (HT : Has P w K mg base "_law_take" ["deck", "many"] 1 spTake) : FnOk P w K mg base CX0 2 f fd ["deck", "cells"] (spMarks K) := by
  refine F.ok scLawMarks (fun vs H Q E h => ?_) (fun cdv A outer s H vs Q E hr h => ?_)
  · obtain ⟨a, ld, p, ys, cells, rfl, _⟩ := h
    rfl
  · obtain ⟨a, ld, p, ys, cells, rfl, hd, npa, hS, mk, hne, hlen, hok, k⟩ := h
    refine ⟨_, (pss_cons (ps_if (pt_cmpR op_eq (pe_callH HT (hr.mono (by decide)) rfl (pa_cons (pv 0) (pa_cons pe_int pa_nil))) pe_int (nomark _)) (pss_one (ps_ret (pe_callTy call_tuple_of rfl T.tuple (by decide +kernel) (pa_cons (pe_lc (own := [("mark", 2)]) rfl scLawMarks.nd (pi_range1 rfl T.range (pa_cons pe_int pa_nil)) (blkOk_by (N := ["deck", "cells", "mark", "cell"]) (sc := defScope sLawMarks) (by decide +kernel)) (fun _ _ _ _ _ => (pg_name (i := 2) scLawMarks.nd rfl (by first | exact Or.inl rfl | exact Or.inr rfl))) (fun _ _ _ _ _ => pts_one (pt_cmpR op_eq (pe_callH HT (hr.mono (by decide)) rfl (pa_cons (pv 0) (pa_cons pe_int pa_nil))) pe_int (nomark _))) (fun _ _ _ _ _ => (pv 2))) pa_nil)))) pss_nil)
      (pss_cons (ps_set (i := 3) scLawMarks.nd rfl (by first | exact Or.inl rfl | exact Or.inr rfl) (pe_ix (IxR.or ix_list ix_tup) (pv 1) (pe_callH HT (hr.mono (by decide)) rfl (pa_cons (pv 0) (pa_cons (pe_callB call_len rfl T.len PySem.boot_len (pa_cons (pv 1) pa_nil)) pa_nil))) (fun _ _ => rfl)))
      (pss_one (ps_ret (pe_callTy call_tuple_of rfl T.tuple (by decide +kernel) (pa_cons (pe_lc (own := [("mark", 2)]) rfl scLawMarks.nd (pi_tup (pv 3)) (blkOk_by (N := ["deck", "cells", "mark", "cell"]) (sc := defScope sLawMarks) (by decide +kernel)) (fun _ _ _ _ _ => (pg_name (i := 2) scLawMarks.nd rfl (by first | exact Or.inl rfl | exact Or.inr rfl))) (fun _ _ _ _ _ => pts_one (pt_cmpR op_gt (pe_callH HT (hr.mono (by decide)) rfl (pa_cons (pv 0) (pa_cons pe_int pa_nil))) pe_int (nomark _))) (fun _ _ _ _ _ => (pv 2))) pa_nil)))))), ?_⟩
    refine ⟨_, rfl, a, ld, _, rfl, hd, by decide, by decide, fun d H1 d0 d1 hd1 f1 _ => ⟨rfl, _, rfl, ?_⟩⟩
    have fin : ∀ (D : Addr) (ms : List Int) (H4 : Hp), H4 D = some (.lst (ms.map V.int)) → MarksOk 6 ms → Deck H4 a ld → Fr a H H4 → ∀ l : Addr, H4 l = Option.none → Q (.ref l) (upd H4 l (.tup (ms.map V.int))) := by
      intro D ms H4 e4 ok hd4 f4 l hl
      exact k _ ms _ ⟨l, rfl, upd_same⟩ ok (hd4.keep (Same.new hl)) (f4.trans (Fr.new hl))
    refine ite2 (fun _ => ?_) (fun _ => ?_)
    · refine ⟨_, rfl, by decide, by decide, fun D hD => ?_⟩
      have hD0 := hd1.free f1 hD
      have nD := hd.ne hD0
      have mD := hd.ne' hD0
      refine lc_range (n := 6) (fun i H4 => ∃ ms : List Int, Deck H4 a ld ∧ Fr a H H4 ∧ H4 D = some (.lst (ms.map V.int)) ∧ ms.length ≤ i ∧ MarksOk (i : Int) ms) ⟨[], hd1.keep (Same.new hD), f1.trans (Fr.new hD), upd_same, Nat.le_refl _, .nil, by simp, by simp⟩ ?_ ?_
      · rintro i H4 hi ⟨ms, hd4, f4, e4, hl, ok⟩
        refine ⟨rfl, _, rfl, a, ld, _, rfl, hd4, by decide, by decide, fun d H5 d0 d1 hd5 f5 _ => ⟨rfl, _, rfl, ?_⟩⟩
        refine ite2 (fun _ => ?_) (fun _ => ?_)
        · refine ⟨_, rfl, _, f5 _ _ e4 nD, by rw [List.length_map]; exact small1000 (by omega), ms ++ [0 + (i : Int)], hd5.put nD mD, fun b o h n => by rw [upd_ne (ne_of_none h hD0)]; exact f5 _ _ (f4 _ _ h n) n, by rw [upd_same, List.map_append]; rfl, by rw [List.length_append]; exact Nat.succ_le_succ hl, ?_⟩
          rw [Int.zero_add]
          refine ⟨List.pairwise_append.mpr ⟨ok.up, by simp, fun x hx y hy => by rw [List.mem_singleton.mp hy]; exact ok.hi x hx⟩, fun m hm => ?_, fun m hm => ?_⟩
          · rcases List.mem_append.mp hm with h | h
            · exact ok.lo m h
            · rw [List.mem_singleton.mp h]; omega
          · rcases List.mem_append.mp hm with h | h
            · have := ok.hi m h; omega
            · rw [List.mem_singleton.mp h]; omega
        · exact ⟨ms, hd5, f4.trans f5, f5 _ _ e4 nD, by omega, ok.le (by omega)⟩
      · rintro H4 ⟨ms, hd4, f4, e4, hl, ok⟩
        exact ⟨_, _, rfl, .inl ⟨SqL.of e4, fin D ms H4 e4 (by simpa using ok) hd4 f4⟩⟩
    · -- cell = cells[take(deck, len(cells))]
      have hcl : 0 < cells.length := List.length_pos_iff.mpr hne
      have hyl := Paired.length mk
      have hS1 : Sq0 H1 p ys := hS.fr f1 npa
      refine ⟨_, rfl, _, rfl, _, rfl, _, ys.length, rfl, hS1.sq.elim (fun h => .inl ⟨_, h, rfl⟩) (fun h => .inr ⟨_, h, rfl⟩), a, ld, _, rfl, hd1, by omega, by omega, fun d H2 d0 d1 hd2 f2 _ => ?_⟩
      obtain ⟨j, ej⟩ : ∃ j : Nat, d = (j : Int) := ⟨d.toNat, by omega⟩
      subst ej
      have hj : j < ys.length := by omega
      have hx : ys[j]? = some ys[j] := List.getElem?_eq_getElem hj
      have hS2 : Sq K H2 p ys := (hS1.fr f2 npa).sq
      have f02 := f1.trans f2
      obtain ⟨c, hc, tc⟩ := Paired.get (mk.keep (hd.tfr f02)) hx
      have okc := hok c (List.mem_of_getElem? hc)
      obtain ⟨tp, etp, htp⟩ := tc
      refine hS2.elim (fun h => .inl ⟨p, ys, _, _, rfl, rfl, h, at_of rfl hx, ?_⟩) (fun h => .inr ⟨p, ys, _, _, rfl, rfl, h, at_of rfl hx, ?_⟩)
      all_goals
        rw [etp]
        refine ⟨_, rfl, tp, rfl, ⟨_, sqT htp⟩, fun D hD => ?_⟩
        have hD0 := hd2.free f02 hD
        have nD := hd.ne hD0
        have mD := hd.ne' hD0
        have ntp : tp ≠ a := by
          obtain ⟨zz, hz⟩ := hd2.is
          exact ne_of htp hz (by intro q; cases q)
        refine lc_tup (K := K) (a := tp) (xs := c.map V.int) (fun i H4 => ∃ ms : List Int, Deck H4 a ld ∧ Fr a H H4 ∧ H4 tp = some (.tup (c.map V.int)) ∧ H4 D = some (.lst (ms.map V.int)) ∧ ms.Sublist (c.take i)) ⟨[], hd2.keep (Same.new hD), f02.trans (Fr.new hD), (Same.new hD) _ _ htp, upd_same, List.nil_sublist _⟩ (fun i H4 _ ⟨_, _, _, e, _⟩ => sqT e) ?_ ?_
        · rintro i y H4 hi ⟨ms, hd4, f4, t4, e4, sb⟩
          obtain ⟨m, hm, rfl⟩ := int_of hi
          have et : c.take (i + 1) = c.take i ++ [m] := by rw [List.take_add_one, hm]; rfl
          refine ⟨rfl, _, rfl, a, ld, _, rfl, hd4, by decide, by decide, fun d H5 d0 d1 hd5 f5 _ => ⟨_, _, rfl, rfl, _, rfl, ?_⟩⟩
          have t5 := hd4.tfr f5 _ _ t4
          refine ite2 (fun _ => ?_) (fun _ => ?_)
          · have hl := (sb.trans (List.take_sublist _ _)).length_le
            have hcl := okc.len
            refine ⟨_, rfl, _, f5 _ _ e4 nD, by rw [List.length_map]; exact small1000 (by omega), ms ++ [m], hd5.put nD mD, fun b o h n => by rw [upd_ne (ne_of_none h hD0)]; exact f5 _ _ (f4 _ _ h n) n, by rw [upd_ne (ne_of t5 (f5 _ _ e4 nD) (by intro q; cases q))]; exact t5, by rw [upd_same, List.map_append]; rfl, by rw [et]; exact sb.append (List.Sublist.refl _)⟩
          · exact ⟨ms, hd5, f4.trans f5, t5, f5 _ _ e4 nD, by rw [et]; exact sb.trans (List.sublist_append_left _ _)⟩
        · rintro H4 ⟨ms, hd4, f4, t4, e4, sb⟩
          exact ⟨_, _, rfl, .inl ⟨SqL.of e4, fin D ms H4 e4 (okc.sub (sb.trans (List.take_sublist _ _))) hd4 f4⟩⟩
end
end Xci

namespace Xci
open PySem L2

section
variable {P : Program} {w : World} {K : PySem.W.Frag} {mg : Str → Option Value} {base : Heap}
abbrev sLawEntries : Stmt := top 56
theorem scLawEntries : FnScope ["deck", "cells", "words", "most", "found", "turn"] ["deck", "cells", "words", "most"] (defScope sLawEntries) := ⟨rfl, rfl, rfl, by decide +kernel, rfl, by decide +kernel, by decide +kernel⟩

theorem ok_entries {f : Addr} {fd : FuncData} (F : Fun K "_law_entries" "_law_entries" sLawEntries f fd) (T : Txt mg) (HT : Has P w K mg base "_law_take" ["deck", "many"] 1 spTake) (HM : Has P w K mg base "_law_marks" ["deck", "cells"] 2 (spMarks K)) :
    FnOk P w K mg base CX0 3 f fd ["deck", "cells", "words", "most"] (spEntries K) := by
  refine F.ok scLawEntries (fun vs H Q E h => ?_) (fun cdv A outer s H vs Q E hr h => ?_)
  · obtain ⟨a, ld, p, qw, ys, cells, zs, m, rfl, _⟩ := h
    rfl
  · obtain ⟨a, ld, p, qw, ys, cells, zs, m, rfl, hd, npa, hS, mk, hne, hcl, hok, ezs, nqa, zne, zl, zok, m0, m1, k⟩ := h
    refine ⟨_, (pss_cons (ps_set (i := 4) scLawEntries.nd rfl (by first | exact Or.inl rfl | exact Or.inr rfl) (pe_lst pa_nil))
      (pss_cons (ps_for PassesOwn.never rfl (pi_range1 rfl T.range (pa_cons (pe_callH HT (hr.mono (by decide)) rfl (pa_cons (pv 0) (pa_cons (pe_op op_add (pv 3) pe_int) pa_nil))) pa_nil)) (pg_name (i := 5) scLawEntries.nd rfl (by first | exact Or.inl rfl | exact Or.inr rfl)) (pss_one (ps_if (PW.pt (pw_and (pt_cmpR op_gt (pe_callB call_len rfl T.len PySem.boot_len (pa_cons (pv 4) pa_nil)) pe_int (nomark _)) (pw_and1 (pt_cmpR op_eq (pe_callH HT (hr.mono (by decide)) rfl (pa_cons (pv 0) (pa_cons pe_int pa_nil))) pe_int (nomark _))))) (pss_one (ps_expr (pe_bm PySem.F.plainAttrs_list PySem.F.slot_list_append PySem.F.type_list_append mt_append (pv 4) (pa_cons (pe_tup (pa_cons (pe_ix ix_tup (pe_ix ix_list (pv 4) (pe_callH HT (hr.mono (by decide)) rfl (pa_cons (pv 0) (pa_cons (pe_callB call_len rfl T.len PySem.boot_len (pa_cons (pv 4) pa_nil)) pa_nil))) (fun _ _ => rfl)) pe_int (fun _ _ => rfl)) (pa_cons (pe_ix ix_list (pv 2) (pe_callH HT (hr.mono (by decide)) rfl (pa_cons (pv 0) (pa_cons (pe_callB call_len rfl T.len PySem.boot_len (pa_cons (pv 2) pa_nil)) pa_nil))) (fun _ _ => rfl)) pa_nil))) pa_nil)))) (pss_one (ps_expr (pe_bm PySem.F.plainAttrs_list PySem.F.slot_list_append PySem.F.type_list_append mt_append (pv 4) (pa_cons (pe_tup (pa_cons (pe_callH HM (hr.mono (by decide)) rfl (pa_cons (pv 0) (pa_cons (pv 1) pa_nil))) (pa_cons (pe_ix ix_list (pv 2) (pe_callH HT (hr.mono (by decide)) rfl (pa_cons (pv 0) (pa_cons (pe_callB call_len rfl T.len PySem.boot_len (pa_cons (pv 2) pa_nil)) pa_nil))) (fun _ _ => rfl)) pa_nil))) pa_nil)))))))
      (pss_one (ps_ret (pe_callTy call_tuple_of rfl T.tuple (by decide +kernel) (pa_cons (pv 4) pa_nil)))))), ?_⟩
    refine ⟨Nat.zero_le _, fun q hq => ?_⟩
    have hd1 : Deck (upd H q (.lst [])) a ld := hd.keep (Same.new hq)
    have f1 : Fr a H (upd H q (.lst [])) := Fr.new hq
    have nq := hd.ne hq
    have mq := hd.ne' hq
    have eq : (upd H q (.lst [])) q = some (.lst []) := upd_same
    generalize upd H q (.lst []) = H1 at *
    have npq : p ≠ q := hS.ne hq
    have nqq : qw ≠ q := ne_of_none ezs hq
    have hS1 : Sq0 H1 p ys := hS.fr f1 npa
    refine ⟨_, rfl, _, rfl, _, _, rfl, rfl, a, ld, _, rfl, hd1, by omega, by omega, fun dn H2 n0 n1 hd2 f2 _ => ⟨_, rfl, by omega, by omega, ?_⟩⟩
    have t0 : TFr H H2 := hd.tfr (f1.trans f2)
    refine for_range (n := dn.toNat) (fun i σ H3 => ∃ (vs : List V) (es : List Ent) (v : Option V), σ = [some (.ref a), some (.ref p), some (.ref qw), some (.int m), some (.ref q), v] ∧ H3 q = some (.lst vs) ∧ Ents H3 vs es ∧ es.length ≤ i ∧ (∀ e ∈ es, EntOk e) ∧ Deck H3 a ld ∧ Fr a H H3)
      ⟨[], [], none, rfl, f2 _ _ eq nq, .nil, Nat.zero_le _, by simp, hd2, f1.trans f2⟩ ?_ ?_
    · rintro i σ H3 hi ⟨vs, es, v, rfl, e3, ents, hl, eok, hd3, f3⟩
      have hvl := Paired.length ents
      have ez3 := f3 _ _ ezs nqa
      have zlen : 0 < zs.length := List.length_pos_iff.mpr zne
      have fin : ∀ (u : V) (ms : List Int) (z : Str) (H5 : Hp), Xci.Mk H5 u ms → EntOk (ms, z) → H5 q = some (.lst vs) → Deck H5 a ld → Fr a H3 H5 → ∀ r : Addr, H5 r = Option.none →
          (∃ (vs' : List V) (es' : List Ent) (v : Option V), ([some (.ref a), some (.ref p), some (.ref qw), some (.int m), some (.ref q), some (.int (0 + (i : Int)))] : L2.St) = [some (.ref a), some (.ref p), some (.ref qw), some (.int m), some (.ref q), v] ∧
            (upd (upd H5 r (.tup [u, .str z])) q (.lst (vs ++ [.ref r]))) q = some (.lst vs') ∧ Ents (upd (upd H5 r (.tup [u, .str z])) q (.lst (vs ++ [.ref r]))) vs' es' ∧ es'.length ≤ i + 1 ∧ (∀ e ∈ es', EntOk e) ∧ Deck (upd (upd H5 r (.tup [u, .str z])) q (.lst (vs ++ [.ref r]))) a ld ∧ Fr a H (upd (upd H5 r (.tup [u, .str z])) q (.lst (vs ++ [.ref r])))) := by
        intro u ms z H5 hu ok e5 hd5 f5 r hr
        have s6 : Same H5 (upd H5 r (.tup [u, .str z])) := Same.new hr
        have tf : TFr (upd H5 r (.tup [u, .str z])) (upd (upd H5 r (.tup [u, .str z])) q (.lst (vs ++ [.ref r]))) := TFr.lst (s6 _ _ e5)
        refine ⟨vs ++ [.ref r], es ++ [(ms, z)], _, rfl, upd_same, ?_, by rw [List.length_append]; exact Nat.succ_le_succ hl, fun e he => ?_, (hd5.keep s6).put nq mq, fun b o h n => ?_⟩
        · exact Paired.app (Ents.keep (((hd3.tfr f5).trans (TFr.same s6)).trans tf) ents) (Paired.one ⟨u, ⟨r, rfl, tf _ _ upd_same⟩, (Tup.keep (TFr.same s6) hu).keep tf⟩)
        · rcases List.mem_append.mp he with h | h
          · exact eok e h
          · rw [List.mem_singleton.mp h]; exact ok
        · rw [upd_ne (ne_of_none h hq)]; exact s6 _ _ (f5 _ _ (f3 _ _ h n) n)
      have word : ∀ d : Int, 0 ≤ d → d < (zs.length : Int) → ∃ (j : Nat) (z : Str), d = (j : Int) ∧ (zs.map V.str)[j]? = some (.str z) ∧ WordOk z := by
        intro d h0 h1
        have hj : d.toNat < zs.length := by omega
        exact ⟨d.toNat, zs[d.toNat], by omega, by rw [List.getElem?_map, List.getElem?_eq_getElem hj]; rfl, zok _ (List.getElem_mem hj)⟩
      refine ⟨_, rfl, _, vs.length, rfl, .inl ⟨_, SqL.of e3, rfl⟩, _, _, rfl, rfl, _, rfl, ?_⟩
      refine ite2 (fun hc => ?_) (fun _ => ?_)
      · have hvp : 0 < vs.length := by simpa using hc
        refine ⟨_, rfl, a, ld, _, rfl, hd3, by decide, by decide, fun d H4 d0 d1 hd4 f4 _ => ⟨rfl, _, rfl, ?_⟩⟩
        have e4 := f4 _ _ e3 nq
        refine ite2 (fun _ => ?_) (fun _ => ?_)
        · refine ⟨_, rfl, .inl ⟨rfl, _, SqL.of e4⟩, _, rfl, _, rfl, _, rfl, _, vs.length, rfl, .inl ⟨_, SqL.of e4, rfl⟩, a, ld, _, rfl, hd4, by omega, by omega, fun d5 H5 d50 d51 hd5 f5 _ => ?_⟩
          have e5 := f5 _ _ e4 nq
          have f35 := f4.trans f5
          obtain ⟨j, ej⟩ : ∃ j : Nat, d5 = (j : Int) := ⟨d5.toNat, by omega⟩
          subst ej
          have hj : j < vs.length := by omega
          have hx : vs[j]? = some vs[j] := List.getElem?_eq_getElem hj
          obtain ⟨e, he, u, ⟨r0, er0, hr0⟩, mu⟩ := Paired.get (Ents.keep (hd3.tfr f35) ents) hx
          have ek := eok e (List.mem_of_getElem? he)
          refine ⟨q, _, _, _, rfl, rfl, SqL.of e5, at_of rfl hx, ?_⟩
          rw [er0]
          refine ⟨r0, _, _, _, rfl, rfl, sqT hr0, at_of (j := 0) rfl rfl, ?_⟩
          have ez5 : H5 qw = some (.lst (zs.map V.str)) := f35 _ _ ez3 nqa
          refine ⟨_, rfl, _, rfl, _, rfl, _, zs.length, rfl, .inl ⟨_, SqL.of ez5, by rw [List.length_map]⟩, a, ld, _, rfl, hd5, by omega, by omega, fun d6 H6 d60 d61 hd6 f6 _ => ?_⟩
          obtain ⟨j6, z, ej6, hz6, wz⟩ := word d6 d60 d61
          have ez6 := f6 _ _ ez5 nqa
          refine ⟨qw, _, _, _, rfl, rfl, SqL.of ez6, at_of ej6 hz6, (by show 2 ≤ sizeLine; decide), fun r hr => ?_⟩
          have e6 := f6 _ _ e5 nq
          refine ⟨q, vs, _, rfl, rfl, (Same.new hr) _ _ e6, small1000 (by omega), ?_⟩
          exact fin u e.1 z H6 (mu.keep (hd5.tfr f6)) ⟨ek.ms, wz⟩ e6 hd6 (f35.trans f6) r hr
        · refine ⟨_, rfl, .inl ⟨rfl, _, SqL.of e4⟩, _, rfl, _, rfl, a, ld, p, ys, cells, rfl, hd4, npa, hS.fr (f3.trans f4) npa, mk.keep (hd.tfr (f3.trans f4)), hne, hcl, hok, fun u ms H5 mu ok hd5 f5 => ?_⟩
          have e5 := f5 _ _ e4 nq
          have f35 := f4.trans f5
          have ez5 : H5 qw = some (.lst (zs.map V.str)) := f35 _ _ ez3 nqa
          refine ⟨_, rfl, _, rfl, _, rfl, _, zs.length, rfl, .inl ⟨_, SqL.of ez5, by rw [List.length_map]⟩, a, ld, _, rfl, hd5, by omega, by omega, fun d6 H6 d60 d61 hd6 f6 _ => ?_⟩
          obtain ⟨j6, z, ej6, hz6, wz⟩ := word d6 d60 d61
          have ez6 := f6 _ _ ez5 nqa
          refine ⟨qw, _, _, _, rfl, rfl, SqL.of ez6, at_of ej6 hz6, (by show 2 ≤ sizeLine; decide), fun r hr => ?_⟩
          have e6 := f6 _ _ e5 nq
          refine ⟨q, vs, _, rfl, rfl, (Same.new hr) _ _ e6, small1000 (by omega), ?_⟩
          exact fin u ms z H6 (Tup.keep (hd5.tfr f6) mu) ⟨ok, wz⟩ e6 hd6 (f35.trans f6) r hr
      · refine ⟨_, rfl, .inl ⟨rfl, _, SqL.of e3⟩, _, rfl, _, rfl, a, ld, p, ys, cells, rfl, hd3, npa, hS.fr f3 npa, mk.keep (hd.tfr f3), hne, hcl, hok, fun u ms H5 mu ok hd5 f5 => ?_⟩
        have e5 := f5 _ _ e3 nq
        have ez5 : H5 qw = some (.lst (zs.map V.str)) := f5 _ _ ez3 nqa
        refine ⟨_, rfl, _, rfl, _, rfl, _, zs.length, rfl, .inl ⟨_, SqL.of ez5, by rw [List.length_map]⟩, a, ld, _, rfl, hd5, by omega, by omega, fun d6 H6 d60 d61 hd6 f6 _ => ?_⟩
        obtain ⟨j6, z, ej6, hz6, wz⟩ := word d6 d60 d61
        have ez6 := f6 _ _ ez5 nqa
        refine ⟨qw, _, _, _, rfl, rfl, SqL.of ez6, at_of ej6 hz6, (by show 2 ≤ sizeLine; decide), fun r hr => ?_⟩
        have e6 := f6 _ _ e5 nq
        refine ⟨q, vs, _, rfl, rfl, (Same.new hr) _ _ e6, small1000 (by omega), ?_⟩
        exact fin u ms z H6 (Tup.keep (hd5.tfr f6) mu) ⟨ok, wz⟩ e6 hd6 (f5.trans f6) r hr
    · rintro σ H3 ⟨vs, es, v, rfl, e3, ents, hl, eok, hd3, f3⟩
      refine ⟨_, rfl, q, vs, rfl, .inl ⟨SqL.of e3, fun r hr => ?_⟩⟩
      exact k r vs es _ upd_same (Ents.keep (TFr.new hr) ents) (by omega) eok (hd3.keep (Same.new hr)) (f3.trans (Fr.new hr))
end
end Xci

namespace Xci
open PySem L2

section
variable {P : Program} {w : World} {K : PySem.W.Frag} {mg : Str → Option Value} {base : Heap}
abbrev sLiesWithin : Stmt := top 13
theorem scLiesWithin : FnScope ["inner", "outer", "mark"] ["inner", "outer"] (defScope sLiesWithin) := ⟨rfl, rfl, rfl, by decide +kernel, rfl, by decide +kernel, by decide +kernel⟩

theorem ok_lies {f : Addr} {fd : FuncData} (F : Fun K "lies_within" "lies_within" sLiesWithin f fd) : FnOk P w K mg base CX0 1 f fd ["inner", "outer"] spLies := by
  refine F.ok scLiesWithin (fun vs H Q E h => ?_) (fun cdv A outer s H vs Q E hr h => ?_)
  · obtain ⟨u, v, ms, ns, rfl, _⟩ := h
    rfl
  · obtain ⟨u, v, ms, ns, rfl, ⟨p, rfl, hp⟩, ⟨q, rfl, hq⟩, k⟩ := h
    refine ⟨_, (pss_cons (ps_for PassesOwn.never rfl (pi_tup (pv 0)) (pg_name (i := 2) scLiesWithin.nd rfl (by first | exact Or.inl rfl | exact Or.inr rfl)) (pss_one (ps_if (pt_cmpR op_notIn_seq (pv 2) (pv 1) (by with_unfolding_all rfl)) (pss_one (ps_ret pe_bl)) pss_nil)))
      (pss_one (ps_ret pe_bl))), ?_⟩
    refine ⟨_, rfl, p, rfl, ⟨_, sqT hp⟩, for_tup (K := K) (a := p) (xs := ms.map V.int) (fun i σ H2 => H2 = H ∧ inside (ms.take i) ns = true ∧ ∃ v : Option V, σ = [some (.ref p), some (.ref q), v]) ⟨rfl, rfl, none, rfl⟩ (fun i σ H2 _ ⟨e, _⟩ => by rw [e]; exact sqT hp) ?_ ?_⟩
    · rintro i y σ H2 hi ⟨rfl, hin, v, rfl⟩
      obtain ⟨m, hm, rfl⟩ := int_of hi
      have mem := List.mem_of_getElem? hm
      refine ⟨_, rfl, _, rfl, q, _, rfl, .inr (sqT hq), rfl, flat_ints ns, _, rfl, ?_⟩
      rw [inV_int]
      refine ite2 (fun hn => ?_) (fun hn => ?_)
      · have hn' : ¬ m ∈ ns := by simpa using hn
        have e : inside ms ns = false := by
          cases hh : inside ms ns with
          | false => rfl
          | true => exact absurd (of_decide_eq_true (List.all_eq_true.mp hh m mem)) hn'
        rw [e] at k
        exact k
      · have hn' : m ∈ ns := by simpa using hn
        refine ⟨rfl, ?_, _, rfl⟩
        have et : ms.take (i + 1) = ms.take i ++ [m] := by rw [List.take_add_one, hm]; rfl
        unfold inside at hin ⊢
        rw [et, List.all_append, hin]
        simp [hn']
    · rintro σ H2 ⟨rfl, hin, v, rfl⟩
      rw [List.length_map, List.take_length] at hin
      rw [hin] at k
      exact k
abbrev sIsEntry : Stmt := top 26
theorem scIsEntry : FnScope ["thing"] ["thing"] (defScope sIsEntry) := ⟨rfl, rfl, rfl, by decide +kernel, rfl, by decide +kernel, by decide +kernel⟩

theorem ok_entry {f : Addr} {fd : FuncData} (F : Fun K "is_entry" "is_entry" sIsEntry f fd) (T : Txt mg) (c : Cst mg) (HC : Has P w K mg base "is_cell" ["many", "thing"] 3 spIsCell) (HF : Has P w K mg base "is_form" ["thing"] 1 spIsForm) : FnOk P w K mg base CX0 4 f fd ["thing"] spIsEntry := by
  refine F.ok scIsEntry (fun vs H Q E h => ?_) (fun cdv A outer s H vs Q E hr h => ?_)
  · obtain ⟨v, e, rfl, _⟩ := h
    rfl
  · obtain ⟨v, e, rfl, ⟨u, ⟨p, rfl, hp⟩, mu⟩, ok, k⟩ := h
    refine ⟨_, (pss_one (ps_ret (pe_and (pe_callB call_isi rfl T.isinstance (by decide +kernel) (pa_cons (pv 0) (pa_cons (pe_bltn rfl T.tuple (by decide +kernel) (v := V.ty "tuple") rfl) pa_nil))) (pe_and (pe_cmpR op_eq (pe_callB call_len rfl T.len PySem.boot_len (pa_cons (pv 0) pa_nil)) pe_int (nomark _)) (pe_and (pe_callH HC (hr.mono (by decide)) rfl (pa_cons (pe_gint rfl c.MARKS) (pa_cons (pe_ix ix_tup (pv 0) pe_int (fun _ _ => rfl)) pa_nil))) (pe_one (pe_callH HF (hr.mono (by decide)) rfl (pa_cons (pe_ix ix_tup (pv 0) pe_int (fun _ _ => rfl)) pa_nil)))))))), ?_⟩
    refine ⟨_, rfl, _, _, _, _, true, rfl, .ty _, .base (.tup hp), kit_ty (by decide +kernel), _, rfl, ?_⟩
    refine ⟨_, rfl, _, 2, rfl, .inr ⟨_, sqT hp, rfl⟩, rfl, _, rfl, ?_⟩
    refine ⟨_, rfl, p, _, _, _, rfl, rfl, sqT hp, at_of (j := 0) rfl rfl, _, u, e.1, rfl, mu, ok.ms, _, rfl, ?_⟩
    exact ⟨_, rfl, p, _, _, _, rfl, rfl, sqT hp, at_of (j := 1) rfl rfl, e.2, rfl, ok.w, k⟩
abbrev sAreEntries : Stmt := top 27
theorem scAreEntries : FnScope ["thing", "entry"] ["thing"] (defScope sAreEntries) := ⟨rfl, rfl, rfl, by decide +kernel, rfl, by decide +kernel, by decide +kernel⟩

theorem ok_are {f : Addr} {fd : FuncData} (F : Fun K "_are_entries" "_are_entries" sAreEntries f fd) (T : Txt mg) (c : Cst mg) (HE : Has P w K mg base "is_entry" ["thing"] 4 spIsEntry) : FnOk P w K mg base CX0 5 f fd ["thing"] spAreEntries := by
  refine F.ok scAreEntries (fun vs H Q E h => ?_) (fun cdv A outer s H vs Q E hr h => ?_)
  · obtain ⟨p, ys, es, rfl, _⟩ := h
    rfl
  · obtain ⟨p, ys, es, rfl, hp, ents, ok, hl, k⟩ := h
    refine ⟨_, (pss_cons (ps_if (PW.pt (pw_or (pt_not (pt_val (pe_callB call_isi rfl T.isinstance (by decide +kernel) (pa_cons (pv 0) (pa_cons (pe_bltn rfl T.tuple (by decide +kernel) (v := V.ty "tuple") rfl) pa_nil))))) (pw_or1 (pt_cmpR op_gt (pe_callB call_len rfl T.len PySem.boot_len (pa_cons (pv 0) pa_nil)) (pe_gint rfl c.MOST_ENTRIES) (nomark _))))) (pss_one (ps_ret pe_bl)) pss_nil)
      (pss_cons (ps_for PassesOwn.never rfl (pi_tup (pv 0)) (pg_name (i := 1) scAreEntries.nd rfl (by first | exact Or.inl rfl | exact Or.inr rfl)) (pss_one (ps_if (pt_not (pt_val (pe_callH HE (hr.mono (by decide)) rfl (pa_cons (pv 1) pa_nil)))) (pss_one (ps_ret pe_bl)) pss_nil)))
      (pss_one (ps_ret pe_bl)))), ?_⟩
    have hyl := Paired.length ents
    refine ⟨_, rfl, _, _, _, _, true, rfl, .ty _, .base (.tup hp), kit_ty (by decide +kernel), _, rfl, ?_⟩
    refine iteF ?_
    refine ⟨_, rfl, _, ys.length, rfl, .inr ⟨_, sqT hp, rfl⟩, _, _, rfl, rfl, _, rfl, ?_⟩
    refine ite2 (fun hf => ?_) (fun _ => ?_)
    · have hf' : (40 : Int) < ((ys.length : Nat) : Int) := of_decide_eq_true hf
      omega
    refine ⟨_, rfl, p, rfl, ⟨_, sqT hp⟩, for_tup (K := K) (a := p) (xs := ys) (fun i σ H2 => H2 = H ∧ ∃ v : Option V, σ = [some (.ref p), v]) ⟨rfl, none, rfl⟩ (fun i σ H2 _ ⟨e, _⟩ => by rw [e]; exact sqT hp) ?_ ?_⟩
    · rintro i y σ H2 hi ⟨rfl, v, rfl⟩
      obtain ⟨e, he, ev⟩ := Paired.get ents hi
      refine ⟨_, rfl, y, e, rfl, ev, ok e (List.mem_of_getElem? he), _, rfl, ?_⟩
      exact iteF ⟨rfl, _, rfl⟩
    · rintro σ H2 ⟨rfl, v, rfl⟩
      exact k
abbrev sAreWeights : Stmt := top 28
theorem scAreWeights : FnScope ["manner", "thing", "weight"] ["manner", "thing"] (defScope sAreWeights) := ⟨rfl, rfl, rfl, by decide +kernel, rfl, by decide +kernel, by decide +kernel⟩

theorem ok_weights {f : Addr} {fd : FuncData} (F : Fun K "_are_weights" "_are_weights" sAreWeights f fd) (T : Txt mg) (c : Cst mg) (HB : Has P w K mg base "is_between" ["low", "high", "thing"] 2 spBetween) : FnOk P w K mg base CX0 3 f fd ["manner", "thing"] spAreWeights := by
  refine F.ok scAreWeights (fun vs H Q E h => ?_) (fun cdv A outer s H vs Q E hr h => ?_)
  · obtain ⟨man, wt, rfl, _⟩ := h
    rfl
  · obtain ⟨man, wt, rfl, hw, k⟩ := h
    refine ⟨_, (pss_cons (ps_if (pt_cmpR op_ne (pv 0) pe_str (nomark _)) (pss_one (ps_ret (pe_cmpR op_isN (pv 1) pe_non (nomark _)))) pss_nil)
      (pss_cons (ps_if (PW.pt (pw_or (pt_not (pt_val (pe_callB call_isi rfl T.isinstance (by decide +kernel) (pa_cons (pv 1) (pa_cons (pe_bltn rfl T.tuple (by decide +kernel) (v := V.ty "tuple") rfl) pa_nil))))) (pw_or1 (pt_cmpR op_ne (pe_callB call_len rfl T.len PySem.boot_len (pa_cons (pv 1) pa_nil)) (pe_gint rfl c.MARKS) (nomark _))))) (pss_one (ps_ret pe_bl)) pss_nil)
      (pss_cons (ps_for PassesOwn.never rfl (pi_tup (pv 1)) (pg_name (i := 2) scAreWeights.nd rfl (by first | exact Or.inl rfl | exact Or.inr rfl)) (pss_one (ps_if (pt_not (pt_val (pe_callH HB (hr.mono (by decide)) rfl (pa_cons pe_int (pa_cons (pe_gint rfl c.MOST_WEIGHT) (pa_cons (pv 2) pa_nil)))))) (pss_one (ps_ret pe_bl)) pss_nil)))
      (pss_one (ps_ret pe_bl))))), ?_⟩
    refine ⟨_, rfl, rfl, _, rfl, ?_⟩
    rcases hw with ⟨hn, rfl⟩ | ⟨rfl, ws, ⟨p, rfl, hp⟩, hl, hb⟩
    · refine ite2 (fun _ => ?_) (fun hf => ?_)
      · exact ⟨_, rfl, rfl, k⟩
      · refine absurd ?_ hf
        have : decide (V.str man = V.str "weights") = false := decide_eq_false fun e => hn (V.str.inj e)
        rw [this]
        rfl
    · refine ite2 (fun hf => ?_) (fun _ => ?_)
      · have e : decide (V.str "weights" = V.str "weights") = true := decide_eq_true rfl
        have hf' : (!decide (V.str "weights" = V.str "weights")) = true := hf
        rw [e] at hf'
        cases hf'
      refine ⟨_, rfl, _, _, _, _, true, rfl, .ty _, .base (.tup hp), kit_ty (by decide +kernel), _, rfl, ?_⟩
      refine iteF ?_
      refine ⟨_, rfl, _, 6, rfl, .inr ⟨_, sqT hp, by rw [List.length_map, hl]⟩, rfl, _, rfl, ?_⟩
      refine iteF ?_
      refine ⟨_, rfl, p, rfl, ⟨_, sqT hp⟩, for_tup (K := K) (a := p) (xs := ws.map V.int) (fun i σ H2 => H2 = H ∧ ∃ v : Option V, σ = [some (.str "weights"), some (.ref p), v]) ⟨rfl, none, rfl⟩ (fun i σ H2 _ ⟨e, _⟩ => by rw [e]; exact sqT hp) ?_ ?_⟩
      · rintro i y σ H2 hi ⟨rfl, v, rfl⟩
        obtain ⟨m, hm, rfl⟩ := int_of hi
        obtain ⟨b1, b2⟩ := hb m (List.mem_of_getElem? hm)
        refine ⟨_, rfl, _, _, m, rfl, _, rfl, ?_⟩
        have e : decide ((0 : Int) ≤ m ∧ m ≤ 1000000) = true := decide_eq_true ⟨b1, b2⟩
        refine ite2 (fun hf => ?_) (fun _ => ⟨rfl, _, rfl⟩)
        have hf' : (!decide ((0 : Int) ≤ m ∧ m ≤ 1000000)) = true := hf
        rw [e] at hf'
        cases hf'
      · rintro σ H2 ⟨rfl, v, rfl⟩
        exact k
end
end Xci

namespace Xci
open PySem L2

section
variable {P : Program} {w : World} {K : PySem.W.Frag} {mg : Str → Option Value} {base : Heap}
abbrev sBookInit : Stmt := inClass (top 25) 0
theorem scBookInit : FnScope ["self", "manner", "entries", "weights"] ["self", "manner", "entries", "weights"] (defScope sBookInit) := ⟨rfl, rfl, rfl, by decide +kernel, rfl, by decide +kernel, by decide +kernel⟩

theorem man_in {man : Str} (h : Man man) : inV (.str man) [.str "row", .str "within", .str "weights", .str "most"] = true := by
  rcases h with rfl | rfl | rfl | rfl <;> decide +kernel
theorem ok_book {f C aM : Addr} {fd : FuncData} (F : Fun K "__init__" "Book.__init__" sBookInit f fd) (T : Txt mg) (B : BkTxt K mg C aM) (HE : Has P w K mg base "_are_entries" ["thing"] 5 spAreEntries) (HW : Has P w K mg base "_are_weights" ["manner", "thing"] 3 spAreWeights) :
    FnOk P w K mg base CX0 6 f fd ["self", "manner", "entries", "weights"] (spBook C) := by
  refine F.ok scBookInit (fun vs H Q E h => ?_) (fun cdv A outer s H vs Q E hr h => ?_)
  · obtain ⟨x, dx, man, p, wt, ys, es, rfl, _⟩ := h
    rfl
  · obtain ⟨x, dx, man, p, wt, ys, es, rfl, hx, hm, hw, hp, ents, eok, el, k⟩ := h
    refine ⟨_, (pss_cons (ps_if (PW.pt (pw_or (pt_not (pt_val (pe_callB call_isi rfl T.isinstance (by decide +kernel) (pa_cons (pv 1) (pa_cons (pe_bltn rfl T.str (by decide +kernel) (v := V.ty "str") rfl) pa_nil))))) (pw_or1 (pt_cmpR op_notIn_seq (pv 1) (pe_glob (v := .ref aM) rfl B.mgM rfl) (by with_unfolding_all rfl))))) (pss_one ps_never) pss_nil)
      (pss_cons (ps_if (pt_not (pt_val (pe_callH HE (hr.mono (by decide)) rfl (pa_cons (pv 2) pa_nil)))) (pss_one ps_never) pss_nil)
      (pss_cons (ps_if (pt_not (pt_val (pe_callH HW (hr.mono (by decide)) rfl (pa_cons (pv 1) (pa_cons (pv 3) pa_nil))))) (pss_one ps_never) pss_nil)
      (pss_cons (ps_fld (pv 0) (pv 1) rfl)
      (pss_cons (ps_fld (pv 0) (pv 2) rfl)
      (pss_one (ps_fld (pv 0) (pv 3) rfl))))))), ?_⟩
    refine ⟨_, rfl, _, _, _, _, true, rfl, .ty _, .base (.str _), kit_ty (by decide +kernel), _, rfl, ?_⟩
    refine iteF ?_
    refine ⟨_, rfl, aM, _, rfl, .inr (B.man H), rfl, rfl, _, rfl, ?_⟩
    rw [man_in hm]
    refine iteF ?_
    refine ⟨_, rfl, p, ys, es, rfl, hp, ents, eok, el, _, rfl, ?_⟩
    refine iteF ?_
    refine ⟨_, rfl, _, rfl, man, wt, rfl, hw, _, rfl, ?_⟩
    refine iteF ?_
    refine ⟨_, rfl, _, rfl, x, C, dx, [], rfl, hx, B.cl, B.nM, (by show 0 < 1000; decide), ?_⟩
    refine ⟨_, rfl, _, rfl, x, C, dx, _, rfl, upd_same, B.cl, B.nE, (by show 1 < 1000; decide), ?_⟩
    refine ⟨_, rfl, _, rfl, x, C, dx, _, rfl, upd_same, B.cl, B.nW, (by rw [put1, put2]; show 2 < 1000; decide), ?_⟩
    refine k _ ⟨dx, ?_⟩ fun b o e hb => ?_
    · rw [upd_same, put1, put2, put3]
      rfl
    · rw [upd_ne hb, upd_ne hb, upd_ne hb]
      exact e
abbrev sFitting : Stmt := top 29
theorem scFitting : FnScope ["book", "cell", "number", "entry"] ["book", "cell"] (defScope sFitting) := ⟨rfl, rfl, rfl, by decide +kernel, rfl, by decide +kernel, by decide +kernel⟩

theorem ok_fitting {f C aM : Addr} {fd : FuncData} (F : Fun K "fitting" "fitting" sFitting f fd) (T : Txt mg) (c : Cst mg) (B : BkTxt K mg C aM) (HC : Has P w K mg base "is_cell" ["many", "thing"] 3 spIsCell) (HL : Has P w K mg base "lies_within" ["inner", "outer"] 1 spLies) :
    FnOk P w K mg base CX0 4 f fd ["book", "cell"] (spFitting C) := by
  refine F.ok scFitting (fun vs H Q E h => ?_) (fun cdv A outer s H vs Q E hr h => ?_)
  · obtain ⟨b, p, man, wt, v, ys, es, ms, rfl, _⟩ := h
    rfl
  · obtain ⟨b, p, man, wt, v, ys, es, ms, rfl, ⟨dx, hb⟩, hp, ents, eok, el, mv, mok, k⟩ := h
    refine ⟨_, (pss_cons (ps_if (pt_not (pt_val (pe_callH HC (hr.mono (by decide)) rfl (pa_cons (pe_gint rfl c.MARKS) (pa_cons (pv 1) pa_nil))))) (pss_one ps_never) pss_nil)
      (pss_one (ps_ret (pe_callTy call_tuple_of rfl T.tuple (by decide +kernel) (pa_cons (pe_lc (own := [("number", 2), ("entry", 3)]) rfl scFitting.nd (pi_enumT rfl T.enumerate (pa_cons (pe_fld (pv 0) rfl) pa_nil)) (blkOk_by (N := ["book", "cell", "number", "entry"]) (sc := defScope sFitting) (by decide +kernel)) (fun _ _ _ _ _ => (show PG _ _ (gTup K 2 _) from pg_tup rfl (pgs_cons (pg_name (i := 2) scFitting.nd rfl (by first | exact Or.inl rfl | exact Or.inr rfl)) (pgs_cons (pg_name (i := 3) scFitting.nd rfl (by first | exact Or.inl rfl | exact Or.inr rfl)) pgs_nil)))) (fun _ _ _ _ _ => pts_one (pt_val (pe_callH HL (hr.mono (by decide)) rfl (pa_cons (pe_ix (show IxR _ (rIxT K) from ix_tup) (pv 3) pe_int (fun _ _ => rfl)) (pa_cons (pv 1) pa_nil))))) (fun _ _ _ _ _ => (pv 2))) pa_nil))))), ?_⟩
    refine ⟨_, rfl, _, v, ms, rfl, mv, mok, _, rfl, ?_⟩
    refine iteF ?_
    have hyl := Paired.length ents
    refine ⟨_, rfl, b, C, dx, _, _, rfl, hb, B.cl, B.nE, bf_entries _ _ _, p, ys, rfl, sqT hp, fun D hD => ?_⟩
    refine lc_it (walk_enumT (K := K) (a := p) (xs := ys)) (fun i H4 => Same H H4 ∧ H4 D = some (.lst ((nat2 ((List.range i).filter (fitP es ms))).map V.int))) ⟨Same.new hD, upd_same⟩ (fun i H4 _ ⟨e, _⟩ => sqT (e _ _ hp)) ?_ ?_
    · rintro i x H4 H5 hi ⟨sm, e4⟩ ⟨t, y, rfl, ht, rfl, hy⟩
      obtain ⟨e, he, u, ⟨r0, rfl, hr0⟩, mu⟩ := Paired.get ents hy
      have s5 : Same H4 (upd H4 t (.tup [.int (i : Nat), .ref r0])) := Same.new ht
      have et : (upd H4 t (.tup [.int (i : Nat), .ref r0])) t = some (.tup [.int (i : Nat), .ref r0]) := upd_same
      generalize upd H4 t (.tup [.int (i : Nat), .ref r0]) = H5 at *
      have s15 := sm.trans s5
      refine ⟨t, _, rfl, sqT et, rfl, _, _, rfl, _, _, rfl, rfl, rfl, ?_⟩
      refine ⟨_, rfl, r0, _, _, _, rfl, rfl, sqT (s15 _ _ hr0), at_of (j := 0) rfl rfl, _, rfl, u, v, e.1, ms, rfl, Tup.keep (TFr.same s15) mu, Tup.keep (TFr.same s15) mv, _, rfl, ?_⟩
      have e5 := s5 _ _ e4
      refine ite2 (fun hn => ?_) (fun hn => ?_)
      · refine ⟨_, rfl, _, e5, by rw [List.length_map]; exact small1000 (Nat.le_trans (fit_len es ms i) (by omega)), fun b o h => by rw [upd_ne (ne_of_none h hD)]; exact s15 b o h, ?_⟩
        rw [upd_same, fit_take, fitP_at he, if_pos hn, nat2_app, List.map_append]
        rfl
      · refine ⟨s15, ?_⟩
        rw [e5, fit_take, fitP_at he, if_neg hn, List.append_nil]
    · rintro H4 ⟨sm, e4⟩
      rw [hyl] at e4
      refine ⟨D, _, rfl, .inl ⟨SqL.of e4, fun l hl => ?_⟩⟩
      exact k l _ upd_same (sm.trans (Same.new hl))
abbrev sLawFits : Stmt := top 59
theorem scLawFits : FnScope ["entries", "cell", "number"] ["entries", "cell"] (defScope sLawFits) := ⟨rfl, rfl, rfl, by decide +kernel, rfl, by decide +kernel, by decide +kernel⟩

theorem ok_fits {f : Addr} {fd : FuncData} (F : Fun K "_law_fits" "_law_fits" sLawFits f fd) (T : Txt mg) (HI : Has P w K mg base "_law_in" ["one", "other"] 1 spIn) : FnOk P w K mg base CX0 2 f fd ["entries", "cell"] (spFits K) := by
  refine F.ok scLawFits (fun vs H Q E h => ?_) (fun cdv A outer s H vs Q E hr h => ?_)
  · obtain ⟨p, v, ys, es, ms, rfl, _⟩ := h
    rfl
  · obtain ⟨p, v, ys, es, ms, rfl, hp, ents, eok, el, mv, k⟩ := h
    refine ⟨_, (pss_one (ps_ret (pe_lc (own := [("number", 2)]) rfl scLawFits.nd (pi_range1 rfl T.range (pa_cons (pe_callB call_len rfl T.len PySem.boot_len (pa_cons (pv 0) pa_nil)) pa_nil)) (blkOk_by (N := ["entries", "cell", "number"]) (sc := defScope sLawFits) (by decide +kernel)) (fun _ _ _ _ _ => (pg_name (i := 2) scLawFits.nd rfl (by first | exact Or.inl rfl | exact Or.inr rfl))) (fun _ _ _ _ _ => pts_one (pt_val (pe_callH HI (hr.mono (by decide)) rfl (pa_cons (pe_ix (show IxR _ (rIxT K) from ix_tup) (pe_ix (show IxR _ (rIxT K) from ix_tup) (pv 0) (pv 2) (fun _ _ => rfl)) pe_int (fun _ _ => rfl)) (pa_cons (pv 1) pa_nil))))) (fun _ _ _ _ _ => (pv 2))))), ?_⟩
    have hyl := Paired.length ents
    refine ⟨_, rfl, _, ys.length, rfl, .inr ⟨_, sqT hp, rfl⟩, _, rfl, by omega, by omega, fun D hD => ?_⟩
    refine lc_range (n := ((ys.length : Nat) : Int).toNat) (fun i H4 => Same H H4 ∧ H4 D = some (.lst ((nat2 ((List.range i).filter (fitP es ms))).map V.int))) ⟨Same.new hD, upd_same⟩ ?_ ?_
    · rintro i H4 hi ⟨sm, e4⟩
      have hi' : i < ys.length := by omega
      have hy : ys[i]? = some ys[i] := List.getElem?_eq_getElem hi'
      obtain ⟨e, he, u, ⟨r0, er0, hr0⟩, mu⟩ := Paired.get ents hy
      have ek := (eok e (List.mem_of_getElem? he)).ms.len
      refine ⟨rfl, _, rfl, _, rfl, p, _, _, _, rfl, rfl, sqT (sm _ _ hp), at_of (j := i) (by omega) hy, ?_⟩
      rw [er0]
      refine ⟨r0, _, _, _, rfl, rfl, sqT (sm _ _ hr0), at_of (j := 0) rfl rfl, _, rfl, u, v, e.1, ms, rfl, Tup.keep (TFr.same sm) mu, Tup.keep (TFr.same sm) mv, by omega, fun H5 s5 => ⟨_, rfl, ?_⟩⟩
      have e5 := s5 _ _ e4
      have s15 := sm.trans s5
      refine ite2 (fun hn => ?_) (fun hn => ?_)
      · refine ⟨_, rfl, _, e5, by rw [List.length_map]; exact small1000 (Nat.le_trans (fit_len es ms i) (by omega)), fun b o h => by rw [upd_ne (ne_of_none h hD)]; exact s15 b o h, ?_⟩
        rw [upd_same, fit_take, fitP_at he, if_pos hn, nat2_app, List.map_append, Int.zero_add]
        rfl
      · refine ⟨s15, ?_⟩
        rw [e5, fit_take, fitP_at he, if_neg hn, List.append_nil]
    · rintro H4 ⟨sm, e4⟩
      rw [Int.toNat_natCast, hyl] at e4
      exact k D H4 e4 sm
end
end Xci

namespace Xci
open PySem L2

section
variable {P : Program} {w : World} {K : PySem.W.Frag} {mg : Str → Option Value} {base : Heap}
abbrev sRank : Stmt := top 30
theorem scRank : FnScope ["book", "number", "marks", "mark"] ["book", "number"] (defScope sRank) := ⟨rfl, rfl, rfl, by decide +kernel, rfl, by decide +kernel, by decide +kernel⟩

theorem ent_at {H : Hp} {ys : List V} {es : List Ent} {j : Nat} (ents : Ents H ys es) (hj : j < es.length) : ∃ (r : Addr) (u : V) (e : Ent), ys[j]? = some (.ref r) ∧ H r = some (.tup [u, .str e.2]) ∧ Xci.Mk H u e.1 ∧ es[j]? = some e := by
  obtain ⟨y, hy, u, ⟨r, rfl, hr⟩, mu⟩ := Paired.get' ents (List.getElem?_eq_getElem hj)
  exact ⟨r, u, es[j], hy, hr, mu, List.getElem?_eq_getElem hj⟩
theorem mk_ent {es : List Ent} {j : Nat} {e : Ent} (ok : ∀ e ∈ es, EntOk e) (h : es[j]? = some e) : MarksOk 6 e.1 := (ok e (List.mem_of_getElem? h)).ms
theorem ws_at {ws : List Int} {m : Int} (hl : ws.length = 6) (h0 : 0 ≤ m) (h1 : m < 6) : (ws.map V.int)[m.toNat]? = some (.int (ws.getD m.toNat 0)) := by
  have hm : m.toNat < ws.length := by omega
  rw [List.getElem?_map, List.getElem?_eq_getElem hm]
  simp [List.getD_eq_getElem?_getD, List.getElem?_eq_getElem hm]
theorem take_map {α β : Type} {f : α → β} {l : List α} {i : Nat} {x : α} (h : l[i]? = some x) : (l.take (i + 1)).map f = (l.take i).map f ++ [f x] := by
  rw [List.take_add_one, h, List.map_append]
  rfl
theorem ok_rank {f C aM : Addr} {fd : FuncData} (F : Fun K "rank" "rank" sRank f fd) (T : Txt mg) (B : BkTxt K mg C aM) : FnOk P w K mg base CX0 1 f fd ["book", "number"] (spRank C) := by
  refine F.ok scRank (fun vs H Q E h => ?_) (fun cdv A outer s H vs Q E hr h => ?_)
  · obtain ⟨b, man, ws, es, j, rfl, _⟩ := h
    rfl
  · obtain ⟨b, man, ws, es, j, rfl, ⟨⟨p, wt, ys, ⟨dx, hb⟩, hp, ents, hw⟩, ok, hl⟩, hj, k⟩ := h
    refine ⟨_, (pss_cons (ps_set (i := 2) scRank.nd rfl (by first | exact Or.inl rfl | exact Or.inr rfl) (pe_ix ix_tup (pe_ix ix_tup (pe_fld (pv 0) rfl) (pv 1) (fun _ _ => rfl)) pe_int (fun _ _ => rfl)))
      (pss_cons (ps_if (pt_cmpR op_eq (pe_fld (pv 0) rfl) pe_str (nomark _)) (pss_one (ps_ret (pe_callB (cr_sum rfl) rfl T.sum (by decide +kernel) (pa_cons (pe_lc (own := [("mark", 3)]) rfl scRank.nd (pi_tup (pv 2)) (blkOk_by (N := ["book", "number", "marks", "mark"]) (sc := defScope sRank) (by decide +kernel)) (fun _ _ _ _ _ => (pg_name (i := 3) scRank.nd rfl (by first | exact Or.inl rfl | exact Or.inr rfl))) (fun _ _ _ _ _ => pts_nil) (fun _ _ _ _ _ => (pe_ix (show IxR _ (rIxT K) from ix_tup) (show PE _ _ (tFld K _ _) from pe_fld (pv 0) rfl) (pv 3) (fun _ _ => rfl)))) pa_nil)))) pss_nil)
      (pss_one (ps_ret (pe_callB call_len rfl T.len PySem.boot_len (pa_cons (pv 2) pa_nil)))))), ?_⟩
    obtain ⟨r, u, e, hy, hr0, ⟨q, rfl, hq⟩, he⟩ := ent_at ents hj
    have mok := mk_ent ok he
    refine ⟨_, rfl, b, C, dx, _, _, rfl, hb, B.cl, B.nE, bf_entries _ _ _, _, rfl, p, _, _, _, rfl, rfl, sqT hp, at_of (j := j) rfl hy, r, _, _, _, rfl, rfl, sqT hr0, at_of (j := 0) rfl rfl, ?_⟩
    refine ⟨_, rfl, b, C, dx, _, _, rfl, hb, B.cl, B.nM, bf_manner _ _ _, rfl, _, rfl, ?_⟩
    rcases hw with ⟨hn, rfl⟩ | ⟨rfl, mw, hwl, hwb⟩
    · refine ite2 (fun hf => absurd (V.str.inj (of_decide_eq_true hf)) hn) (fun _ => ?_)
      refine ⟨_, rfl, _, _, rfl, .inr ⟨_, sqT hq, rfl⟩, ?_⟩
      have e1 : rkA man ws es j = ((e.1.map V.int).length : Nat) := by
        unfold rkA rk
        rw [if_neg hn, mkA_at he, List.length_map]
      have k' := k H (Same.refl H)
      rw [e1] at k'
      exact k'
    · refine ite2 (fun _ => ?_) (fun hf => absurd (decide_eq_true rfl) hf)
      obtain ⟨wp, rfl, hwp⟩ := mw
      refine ⟨_, rfl, q, rfl, ⟨_, sqT hq⟩, fun D hD => ?_⟩
      have ml := mok.len
      refine lc_tup (K := K) (a := q) (xs := e.1.map V.int) (fun i H4 => Same H H4 ∧ H4 D = some (.lst (((e.1.take i).map fun m => ws.getD m.toNat 0).map V.int))) ⟨Same.new hD, upd_same⟩ (fun i H4 _ ⟨s4, _⟩ => sqT (s4 _ _ hq)) ?_ ?_
      · rintro i y H4 hi ⟨sm, e4⟩
        obtain ⟨m, hm, rfl⟩ := int_of hi
        have mem := List.mem_of_getElem? hm
        have h0 := mok.lo m mem
        have h1 := mok.hi m mem
        refine ⟨rfl, _, rfl, b, C, dx, _, _, rfl, sm _ _ hb, B.cl, B.nW, bf_weights _ _ _, _, rfl, wp, _, _, _, rfl, rfl, sqT (sm _ _ hwp), at_of (j := m.toNat) (by omega) (ws_at hwl h0 h1), ?_⟩
        refine ⟨_, e4, by rw [List.length_map, List.length_map, List.length_take]; exact small1000 (by omega), fun b o h => by rw [upd_ne (ne_of_none h hD)]; exact sm b o h, ?_⟩
        rw [upd_same, take_map hm, List.map_append]
        rfl
      · rintro H4 ⟨sm, e4⟩
        rw [List.length_map, List.take_length] at e4
        refine ⟨D, _, rfl, SqL.of e4, ?_⟩
        have e1 : rkA "weights" ws es j = (e.1.map fun m => ws.getD m.toNat 0).sum := by
          unfold rkA rk
          rw [if_pos rfl, mkA_at he]
        have k' := k H4 sm
        rw [e1] at k'
        exact k'
abbrev sHighest : Stmt := top 31
theorem scHighest : FnScope ["book", "numbers", "ranks", "number", "best", "reached"] ["book", "numbers"] (defScope sHighest) := ⟨rfl, rfl, rfl, by decide +kernel, rfl, by decide +kernel, by decide +kernel⟩

theorem filt_snoc {α : Type} {p : α → Bool} {l : List α} {i : Nat} {x : α} (h : l[i]? = some x) : (l.take (i + 1)).filter p = (l.take i).filter p ++ if p x = true then [x] else [] := by
  rw [List.take_add_one, h, List.filter_append]
  show _ ++ List.filter p [x] = _
  rw [List.filter_cons, List.filter_nil]
theorem ok_highest {f C : Addr} {fd : FuncData} (F : Fun K "_highest" "_highest" sHighest f fd) (T : Txt mg) (HR : Has P w K mg base "rank" ["book", "number"] 1 (spRank C)) : FnOk P w K mg base CX0 2 f fd ["book", "numbers"] (spHighest C) := by
  refine F.ok scHighest (fun vs H Q E h => ?_) (fun cdv A outer s H vs Q E hr h => ?_)
  · obtain ⟨b, q, man, ws, es, js, rfl, _⟩ := h
    rfl
  · obtain ⟨b, q, man, ws, es, js, rfl, bs, hq, hlt, hne, hjl, k⟩ := h
    refine ⟨_, (C8.pss_cut (ps_setLc (i := 2) (own := [("number", 3)]) rfl scHighest.nd rfl rfl (sw_true rfl rfl rfl (by decide +kernel)) (pi_tup (pv 1)) (blkOk_by (N := ["book", "numbers", "ranks", "number", "best", "reached"]) (sc := defScope sHighest) (by decide +kernel)) (fun _ _ _ _ _ => (pg_name (i := 3) scHighest.nd rfl (by first | exact Or.inl rfl | exact Or.inr rfl))) (fun _ _ _ _ _ => pts_nil) (fun _ _ _ _ _ => (pe_callH HR (hr.mono (by decide)) rfl (pa_cons (pv 0) (pa_cons (pv 3) pa_nil)))))
      (C8.pss_cut (ps_set (i := 4) scHighest.nd rfl (by first | exact Or.inl rfl | exact Or.inr rfl) (pe_callB (cr_max rfl) rfl T.max (by decide +kernel) (pa_cons (pv 2) pa_nil)))
      (pss_one (ps_ret (pe_callTy call_tuple_of rfl T.tuple (by decide +kernel) (pa_cons (pe_lc (own := [("number", 3), ("reached", 5)]) rfl scHighest.nd (pi_zipM rfl T.zip (pa_cons (pv 1) (pa_cons (pv 2) pa_nil))) (blkOk_by (N := ["book", "numbers", "ranks", "number", "best", "reached"]) (sc := defScope sHighest) (by decide +kernel)) (fun _ _ _ _ _ => (show PG _ _ (gTup K 2 _) from pg_tup rfl (pgs_cons (pg_name (i := 3) scHighest.nd rfl (by first | exact Or.inl rfl | exact Or.inr rfl)) (pgs_cons (pg_name (i := 5) scHighest.nd rfl (by first | exact Or.inl rfl | exact Or.inr rfl)) pgs_nil)))) (fun _ _ _ _ _ => pts_one (pt_cmpR op_eq (pv 5) (pv 4) (nomark _))) (fun _ _ _ _ _ => (pv 3))) pa_nil)))))), ?_⟩
    have hq : H q = some (.tup ((nat2 js).map V.int)) := hq
    refine ⟨fun σ' H1 => Same H H1 ∧ ∃ D : Addr, H1 D = some (.lst ((js.map (rkA man ws es)).map V.int)) ∧ σ' = [some (.ref b), some (.ref q), some (.ref D), none, none, none], ?_, ?_⟩
    · refine ⟨_, rfl, q, rfl, ⟨_, sqT hq⟩, fun D hD => ?_⟩
      refine lc_tup (K := K) (a := q) (xs := (nat2 js).map V.int) (fun i H4 => Same H H4 ∧ H4 D = some (.lst (((js.take i).map (rkA man ws es)).map V.int))) ⟨Same.new hD, upd_same⟩ (fun i H4 _ ⟨s4, _⟩ => sqT (s4 _ _ hq)) ?_ ?_
      · rintro i y H4 hi ⟨sm, e4⟩
        obtain ⟨j, hj, rfl⟩ := num_of hi
        have hj40 := (List.getElem?_eq_some_iff.mp hj).1
        refine ⟨rfl, _, rfl, _, rfl, b, man, ws, es, j, rfl, bs.same sm, hlt j (List.mem_of_getElem? hj), fun H5 s5 => ?_⟩
        refine ⟨_, s5 _ _ e4, by rw [List.length_map, List.length_map, List.length_take]; exact small1000 (by omega), fun b o h => by rw [upd_ne (ne_of_none h hD)]; exact s5 _ _ (sm b o h), ?_⟩
        rw [upd_same, take_map hj, List.map_append]
        rfl
      · rintro H4 ⟨sm, e4⟩
        rw [List.length_map, nat2_len, List.take_length] at e4
        exact ⟨sm, D, e4, rfl⟩
    rintro σ' H1 ⟨s1, D, eD, rfl⟩
    refine ⟨fun σ' H2 => H2 = H1 ∧ ∃ m : Int, IsMax js (rkA man ws es) m ∧ σ' = [some (.ref b), some (.ref q), some (.ref D), none, some (.int m), none], ?_, ?_⟩
    · refine ⟨_, rfl, D, _, rfl, SqL.of eD, by rw [List.length_map]; exact List.length_pos_iff.mpr hne, fun m hm hle => ?_⟩
      refine ⟨rfl, m, ⟨?_, fun j hj => hle _ (List.mem_map_of_mem hj)⟩, rfl⟩
      obtain ⟨j, hj, e⟩ := List.mem_map.mp hm
      exact ⟨j, hj, e⟩
    rintro σ' H2 ⟨rfl, m, M, rfl⟩
    have hq2 := s1 _ _ hq
    have ll : ((nat2 js).map V.int).length = ((js.map (rkA man ws es)).map V.int).length := by rw [List.length_map, nat2_len, List.length_map, List.length_map]
    refine ⟨_, rfl, _, rfl, q, D, _, _, rfl, ⟨sqT hq2, SqL.of eD⟩, fun L hL => ?_⟩
    refine lc_it (walk_zipM (K := K) (a := q) (b := D) ll) (fun i H4 => Same H2 H4 ∧ H4 L = some (.lst ((nat2 ((js.take i).filter fun j => decide (rkA man ws es j = m))).map V.int))) ⟨Same.new hL, upd_same⟩ (fun i H4 _ ⟨s4, _⟩ => ⟨sqT (s4 _ _ hq2), SqL.of (s4 _ _ eD)⟩) ?_ ?_
    · rintro i x H4 H5 hi ⟨sm, e4⟩ ⟨t, x1, x2, rfl, ht, rfl, hx1, hx2⟩
      obtain ⟨j, hj, rfl⟩ := num_of hx1
      obtain ⟨z, hz, rfl⟩ := int_of hx2
      rw [List.getElem?_map, hj] at hz
      obtain rfl : rkA man ws es j = z := Option.some.inj hz
      have s5 : Same H4 (upd H4 t (.tup [.int (j : Int), .int (rkA man ws es j)])) := Same.new ht
      have et : (upd H4 t (.tup [.int (j : Int), .int (rkA man ws es j)])) t = some (.tup [.int (j : Int), .int (rkA man ws es j)]) := upd_same
      generalize upd H4 t (.tup [.int (j : Int), .int (rkA man ws es j)]) = H5 at *
      have e5 := s5 _ _ e4
      have hj40 := (List.getElem?_eq_some_iff.mp hj).1
      refine ⟨t, _, rfl, sqT et, rfl, _, _, rfl, _, _, rfl, rfl, rfl, ?_⟩
      refine ⟨_, rfl, _, rfl, rfl, _, rfl, ?_⟩
      have dd : decide (V.int (rkA man ws es j) = V.int m) = decide (rkA man ws es j = m) := by
        rw [Bool.eq_iff_iff, decide_eq_true_iff, decide_eq_true_iff]
        exact ⟨fun h => V.int.inj h, fun h => by rw [h]⟩
      rw [dd]
      refine ite2 (fun hn => ?_) (fun hn => ?_)
      · refine ⟨_, rfl, _, e5, ?_, fun b o h => by rw [upd_ne (ne_of_none h hL)]; exact s5 _ _ (sm b o h), ?_⟩
        · rw [List.length_map, nat2_len]
          exact small1000 (Nat.le_trans (List.length_filter_le _ _) (by rw [List.length_take]; omega))
        · rw [upd_same, filt_snoc hj, if_pos hn, nat2_app, List.map_append]
          rfl
      · refine ⟨sm.trans s5, ?_⟩
        rw [e5, filt_snoc hj, if_neg hn, List.append_nil]
    · rintro H4 ⟨sm, e4⟩
      rw [List.length_map, nat2_len, List.take_length] at e4
      refine ⟨L, _, rfl, .inl ⟨SqL.of e4, fun t ht => ?_⟩⟩
      exact k t m _ M upd_same ((s1.trans sm).trans (Same.new ht))
abbrev sHoldsAll : Stmt := top 33
theorem scHoldsAll : FnScope ["book", "number", "numbers", "marks", "other"] ["book", "number", "numbers"] (defScope sHoldsAll) := ⟨rfl, rfl, rfl, by decide +kernel, rfl, by decide +kernel, by decide +kernel⟩

theorem ok_holds {f C aM : Addr} {fd : FuncData} (F : Fun K "_holds_all" "_holds_all" sHoldsAll f fd) (T : Txt mg) (B : BkTxt K mg C aM) (HL : Has P w K mg base "lies_within" ["inner", "outer"] 1 spLies) : FnOk P w K mg base CX0 2 f fd ["book", "number", "numbers"] (spHolds C) := by
  refine F.ok scHoldsAll (fun vs H Q E h => ?_) (fun cdv A outer s H vs Q E hr h => ?_)
  · obtain ⟨b, q, man, ws, es, js, n, rfl, _⟩ := h
    rfl
  · obtain ⟨b, q, man, ws, es, js, n, rfl, ⟨⟨p, wt, ys, ⟨dx, hb⟩, hp, ents, hw⟩, ok, hl⟩, hq, hlt, hn, hjl, k⟩ := h
    refine ⟨_, (pss_cons (ps_set (i := 3) scHoldsAll.nd rfl (by first | exact Or.inl rfl | exact Or.inr rfl) (pe_ix ix_tup (pe_ix ix_tup (pe_fld (pv 0) rfl) (pv 1) (fun _ _ => rfl)) pe_int (fun _ _ => rfl)))
      (pss_one (ps_ret (pe_callB (cr_all rfl) rfl T.all (by decide +kernel) (pa_cons (pe_lc (own := [("other", 4)]) rfl scHoldsAll.nd (pi_tup (pv 2)) (blkOk_by (N := ["book", "number", "numbers", "marks", "other"]) (sc := defScope sHoldsAll) (by decide +kernel)) (fun _ _ _ _ _ => (pg_name (i := 4) scHoldsAll.nd rfl (by first | exact Or.inl rfl | exact Or.inr rfl))) (fun _ _ _ _ _ => pts_nil) (fun _ _ _ _ _ => (pe_callH HL (hr.mono (by decide)) rfl (pa_cons (pe_ix (show IxR _ (rIxT K) from ix_tup) (pe_ix (show IxR _ (rIxT K) from ix_tup) (show PE _ _ (tFld K _ _) from pe_fld (pv 0) rfl) (pv 4) (fun _ _ => rfl)) pe_int (fun _ _ => rfl)) (pa_cons (pv 3) pa_nil))))) pa_nil))))), ?_⟩
    have hq : H q = some (.tup ((nat2 js).map V.int)) := hq
    obtain ⟨r, u, e, hy, hr0, mu, he⟩ := ent_at ents hn
    refine ⟨_, rfl, b, C, dx, _, _, rfl, hb, B.cl, B.nE, bf_entries _ _ _, _, rfl, p, _, _, _, rfl, rfl, sqT hp, at_of (j := n) rfl hy, r, _, _, _, rfl, rfl, sqT hr0, at_of (j := 0) rfl rfl, ?_⟩
    refine ⟨_, rfl, q, rfl, ⟨_, sqT hq⟩, fun D hD => ?_⟩
    refine lc_tup (K := K) (a := q) (xs := (nat2 js).map V.int) (fun i H4 => Same H H4 ∧ H4 D = some (.lst (((js.take i).map fun o => inside (mkA es o) (mkA es n)).map V.bl))) ⟨Same.new hD, upd_same⟩ (fun i H4 _ ⟨s4, _⟩ => sqT (s4 _ _ hq)) ?_ ?_
    · rintro i y H4 hi ⟨sm, e4⟩
      obtain ⟨j, hj, rfl⟩ := num_of hi
      have hj40 := (List.getElem?_eq_some_iff.mp hj).1
      obtain ⟨r1, u1, e1, hy1, hr1, mu1, he1⟩ := ent_at ents (hlt j (List.mem_of_getElem? hj))
      refine ⟨rfl, _, rfl, b, C, dx, _, _, rfl, sm _ _ hb, B.cl, B.nE, bf_entries _ _ _, _, rfl, p, _, _, _, rfl, rfl, sqT (sm _ _ hp), at_of (j := j) rfl hy1, r1, _, _, _, rfl, rfl, sqT (sm _ _ hr1), at_of (j := 0) rfl rfl, _, rfl, u1, u, e1.1, e.1, rfl, Tup.keep (TFr.same sm) mu1, Tup.keep (TFr.same sm) mu, ?_⟩
      refine ⟨_, e4, by rw [List.length_map, List.length_map, List.length_take]; exact small1000 (by omega), fun b o h => by rw [upd_ne (ne_of_none h hD)]; exact sm b o h, ?_⟩
      rw [upd_same, take_map hj, List.map_append, mkA_at he1, mkA_at he]
      rfl
    · rintro H4 ⟨sm, e4⟩
      rw [List.length_map, nat2_len, List.take_length] at e4
      refine ⟨D, _, rfl, SqL.of e4, ?_⟩
      have ee : (js.map fun o => inside (mkA es o) (mkA es n)).all id = holds es js n := by
        unfold holds
        rw [List.all_map]
        rfl
      rw [ee]
      exact k H4 sm
abbrev sIsOutdone : Stmt := top 35
theorem scIsOutdone : FnScope ["book", "number", "numbers", "marks", "larger", "other", "held"] ["book", "number", "numbers"] (defScope sIsOutdone) := ⟨rfl, rfl, rfl, by decide +kernel, rfl, by decide +kernel, by decide +kernel⟩

theorem ok_outdone {f C aM : Addr} {fd : FuncData} (F : Fun K "_is_outdone" "_is_outdone" sIsOutdone f fd) (T : Txt mg) (B : BkTxt K mg C aM) (HL : Has P w K mg base "lies_within" ["inner", "outer"] 1 spLies) : FnOk P w K mg base CX0 2 f fd ["book", "number", "numbers"] (spOutdone C) := by
  refine F.ok scIsOutdone (fun vs H Q E h => ?_) (fun cdv A outer s H vs Q E hr h => ?_)
  · obtain ⟨b, q, man, ws, es, js, n, rfl, _⟩ := h
    rfl
  · obtain ⟨b, q, man, ws, es, js, n, rfl, ⟨⟨p, wt, ys, ⟨dx, hb⟩, hp, ents, hw⟩, ok, hl⟩, hq, hlt, hn, hjl, k⟩ := h
    refine ⟨_, (pss_cons (ps_set (i := 3) scIsOutdone.nd rfl (by first | exact Or.inl rfl | exact Or.inr rfl) (pe_ix ix_tup (pe_ix ix_tup (pe_fld (pv 0) rfl) (pv 1) (fun _ _ => rfl)) pe_int (fun _ _ => rfl)))
      (C8.pss_cut (ps_setLc (i := 4) (own := [("other", 5)]) rfl scIsOutdone.nd rfl rfl (sw_true rfl rfl rfl (by decide +kernel)) (pi_tup (pv 2)) (blkOk_by (N := ["book", "number", "numbers", "marks", "larger", "other", "held"]) (sc := defScope sIsOutdone) (by decide +kernel)) (fun _ _ _ _ _ => (pg_name (i := 5) scIsOutdone.nd rfl (by first | exact Or.inl rfl | exact Or.inr rfl))) (fun _ _ _ _ _ => pts_one (pt_cmpR op_gt (pe_callB (show CallR _ _ (rLen K) from call_lenK) rfl T.len PySem.boot_len (pa_cons (pe_ix (show IxR _ (rIxT K) from ix_tup) (pe_ix (show IxR _ (rIxT K) from ix_tup) (show PE _ _ (tFld K _ _) from pe_fld (pv 0) rfl) (pv 5) (fun _ _ => rfl)) pe_int (fun _ _ => rfl)) pa_nil)) (pe_callB (show CallR _ _ (rLen K) from call_lenK) rfl T.len PySem.boot_len (pa_cons (pv 3) pa_nil)) (nomark _))) (fun _ _ _ _ _ => (pe_ix (show IxR _ (rIxT K) from ix_tup) (pe_ix (show IxR _ (rIxT K) from ix_tup) (show PE _ _ (tFld K _ _) from pe_fld (pv 0) rfl) (pv 5) (fun _ _ => rfl)) pe_int (fun _ _ => rfl))))
      (pss_one (ps_ret (pe_callB (cr_any rfl) rfl T.any (by decide +kernel) (pa_cons (pe_lc (own := [("held", 6)]) rfl scIsOutdone.nd (pi_list (pv 4)) (blkOk_by (N := ["book", "number", "numbers", "marks", "larger", "other", "held"]) (sc := defScope sIsOutdone) (by decide +kernel)) (fun _ _ _ _ _ => (pg_name (i := 6) scIsOutdone.nd rfl (by first | exact Or.inl rfl | exact Or.inr rfl))) (fun _ _ _ _ _ => pts_nil) (fun _ _ _ _ _ => (pe_callH HL (hr.mono (by decide)) rfl (pa_cons (pv 3) (pa_cons (pv 6) pa_nil))))) pa_nil)))))), ?_⟩
    have hq : H q = some (.tup ((nat2 js).map V.int)) := hq
    obtain ⟨r, u, e, hy, hr0, mu, he⟩ := ent_at ents hn
    refine ⟨_, rfl, b, C, dx, _, _, rfl, hb, B.cl, B.nE, bf_entries _ _ _, _, rfl, p, _, _, _, rfl, rfl, sqT hp, at_of (j := n) rfl hy, r, _, _, _, rfl, rfl, sqT hr0, at_of (j := 0) rfl rfl, ?_⟩
    obtain ⟨mq, rfl, hmq⟩ := id mu
    refine ⟨fun σ' H1 => Same H H1 ∧ ∃ (L : Addr) (us : List V), H1 L = some (.lst us) ∧ Mks H1 us ((js.filter fun o => decide ((mkA es n).length < (mkA es o).length)).map (mkA es)) ∧ σ' = [some (.ref b), some (.int (n : Int)), some (.ref q), some (.ref mq), some (.ref L), none, none], ?_, ?_⟩
    · refine ⟨_, rfl, q, rfl, ⟨_, sqT hq⟩, fun D hD => ?_⟩
      refine lc_tup (K := K) (a := q) (xs := (nat2 js).map V.int) (fun i H4 => Same H H4 ∧ ∃ us : List V, H4 D = some (.lst us) ∧ Mks H4 us (((js.take i).filter fun o => decide ((mkA es n).length < (mkA es o).length)).map (mkA es))) ⟨Same.new hD, [], upd_same, .nil⟩ (fun i H4 _ ⟨s4, _⟩ => sqT (s4 _ _ hq)) ?_ ?_
      · rintro i y H4 hi ⟨sm, us, e4, m4⟩
        obtain ⟨j, hj, rfl⟩ := num_of hi
        have hj40 := (List.getElem?_eq_some_iff.mp hj).1
        obtain ⟨r1, u1, e1, hy1, hr1, ⟨m1q, rfl, hm1⟩, he1⟩ := ent_at ents (hlt j (List.mem_of_getElem? hj))
        refine ⟨rfl, _, rfl, b, C, dx, _, _, rfl, sm _ _ hb, B.cl, B.nE, bf_entries _ _ _, _, rfl, p, _, _, _, rfl, rfl, sqT (sm _ _ hp), at_of (j := j) rfl hy1, r1, _, _, _, rfl, rfl, sqT (sm _ _ hr1), at_of (j := 0) rfl rfl, _, _, rfl, .inr ⟨_, sqT (sm _ _ hm1), rfl⟩, _, rfl, _, _, rfl, .inr ⟨_, sqT (sm _ _ hmq), rfl⟩, _, _, rfl, rfl, _, rfl, ?_⟩
        have ul : us.length ≤ 40 := by
          rw [Paired.length m4, List.length_map]
          exact Nat.le_trans (List.length_filter_le _ _) (by rw [List.length_take]; omega)
        have cond : decide ((((e.1.map V.int).length : Nat) : Int) < (((e1.1.map V.int).length : Nat) : Int)) = decide ((mkA es n).length < (mkA es j).length) := by
          rw [mkA_at he1, mkA_at he, List.length_map, List.length_map, Bool.eq_iff_iff, decide_eq_true_iff, decide_eq_true_iff]
          omega
        rw [cond]
        refine ite2 (fun hc => ?_) (fun hc => ?_)
        · refine ⟨_, rfl, b, C, dx, _, _, rfl, sm _ _ hb, B.cl, B.nE, bf_entries _ _ _, _, rfl, p, _, _, _, rfl, rfl, sqT (sm _ _ hp), at_of (j := j) rfl hy1, r1, _, _, _, rfl, rfl, sqT (sm _ _ hr1), at_of (j := 0) rfl rfl, ?_⟩
          refine ⟨us, e4, small1000 (by omega), fun b o h => by rw [upd_ne (ne_of_none h hD)]; exact sm b o h, us ++ [.ref m1q], upd_same, ?_⟩
          rw [filt_snoc hj, if_pos hc, List.map_append]
          have tf : TFr H4 (upd H4 D (.lst (us ++ [.ref m1q]))) := TFr.lst e4
          exact Paired.app (m4.keep tf) (Paired.one ⟨m1q, rfl, by rw [mkA_at he1]; exact tf _ _ (sm _ _ hm1)⟩)
        · refine ⟨sm, us, e4, ?_⟩
          rw [filt_snoc hj, if_neg hc, List.append_nil]
          exact m4
      · rintro H4 ⟨sm, us, e4, m4⟩
        rw [List.length_map, nat2_len, List.take_length] at m4
        exact ⟨sm, D, us, e4, m4, rfl⟩
    rintro σ' H1 ⟨s1, L, us, eL, mL, rfl⟩
    refine ⟨_, rfl, L, rfl, ⟨_, SqL.of eL⟩, fun D hD => ?_⟩
    have ul : us.length ≤ 40 := by
      rw [Paired.length mL, List.length_map]
      exact Nat.le_trans (List.length_filter_le _ _) (by omega)
    refine lc_list (K := K) (a := L) (xs := us) (fun i H4 => Same H1 H4 ∧ H4 D = some (.lst (((((js.filter fun o => decide ((mkA es n).length < (mkA es o).length)).map (mkA es)).take i).map fun k => inside (mkA es n) k).map V.bl))) ⟨Same.new hD, upd_same⟩ (fun i H4 _ ⟨s4, _⟩ => SqL.of (s4 _ _ eL)) ?_ ?_
    · rintro i y H4 hi ⟨sm, e4⟩
      obtain ⟨ks, hks, ty⟩ := Paired.get mL hi
      have hi40 := (List.getElem?_eq_some_iff.mp hi).1
      refine ⟨rfl, _, rfl, _, rfl, .ref mq, y, e.1, ks, rfl, ⟨mq, rfl, sm _ _ (s1 _ _ hmq)⟩, Tup.keep (TFr.same sm) ty, ?_⟩
      refine ⟨_, e4, by rw [List.length_map, List.length_map, List.length_take]; exact small1000 (by omega), fun b o h => by rw [upd_ne (ne_of_none h hD)]; exact sm b o h, ?_⟩
      rw [upd_same, take_map hks, List.map_append, mkA_at he]
      rfl
    · rintro H4 ⟨sm, e4⟩
      rw [Paired.length mL, List.take_length] at e4
      refine ⟨D, _, rfl, SqL.of e4, ?_⟩
      have ee : (((js.filter fun o => decide ((mkA es n).length < (mkA es o).length)).map (mkA es)).map fun k => inside (mkA es n) k).any id = outdone es js n := by
        unfold outdone
        rw [List.map_map, List.any_map]
        rfl
      rw [ee]
      exact k H4 (s1.trans sm)
abbrev sInQuarrel : Stmt := top 34
theorem scInQuarrel : FnScope ["book", "numbers", "number"] ["book", "numbers"] (defScope sInQuarrel) := ⟨rfl, rfl, rfl, by decide +kernel, rfl, by decide +kernel, by decide +kernel⟩

theorem ok_quarrel {f C aM : Addr} {fd : FuncData} (F : Fun K "_in_quarrel" "_in_quarrel" sInQuarrel f fd) (T : Txt mg) (B : BkTxt K mg C aM) (HH : Has P w K mg base "_highest" ["book", "numbers"] 2 (spHighest C)) (HU : Has P w K mg base "_is_outdone" ["book", "number", "numbers"] 2 (spOutdone C)) :
    FnOk P w K mg base CX0 3 f fd ["book", "numbers"] (spQuarrel C) := by
  refine F.ok scInQuarrel (fun vs H Q E h => ?_) (fun cdv A outer s H vs Q E hr h => ?_)
  · obtain ⟨b, q, man, ws, es, js, rfl, _⟩ := h
    rfl
  · obtain ⟨b, q, man, ws, es, js, rfl, bs, hq, hlt, hne, hjl, k⟩ := h
    refine ⟨_, (pss_cons (ps_if (pt_cmpR op_ne (pe_fld (pv 0) rfl) pe_str (nomark _)) (pss_one (ps_ret (pe_callH HH (hr.mono (by decide)) rfl (pa_cons (pv 0) (pa_cons (pv 1) pa_nil))))) pss_nil)
      (pss_one (ps_ret (pe_callTy call_tuple_of rfl T.tuple (by decide +kernel) (pa_cons (pe_lc (own := [("number", 2)]) rfl scInQuarrel.nd (pi_tup (pv 1)) (blkOk_by (N := ["book", "numbers", "number"]) (sc := defScope sInQuarrel) (by decide +kernel)) (fun _ _ _ _ _ => (pg_name (i := 2) scInQuarrel.nd rfl (by first | exact Or.inl rfl | exact Or.inr rfl))) (fun _ _ _ _ _ => pts_one (pt_not (pt_val (pe_callH HU (hr.mono (by decide)) rfl (pa_cons (pv 0) (pa_cons (pv 2) (pa_cons (pv 1) pa_nil))))))) (fun _ _ _ _ _ => (pv 2))) pa_nil))))), ?_⟩
    obtain ⟨p, wt, ys, ⟨dx, hb⟩, hp, ents, hw⟩ := bs.ex
    have hq : H q = some (.tup ((nat2 js).map V.int)) := hq
    refine ⟨_, rfl, b, C, dx, _, _, rfl, hb, B.cl, B.nM, bf_manner _ _ _, rfl, _, rfl, ?_⟩
    by_cases hm : man = "within"
    · subst hm
      have d0 : (!decide (V.str "within" = V.str "within")) = false := by rw [decide_eq_true rfl]; rfl
      refine ite2 (fun hf => ?_) (fun _ => ?_)
      · rw [d0] at hf; cases hf
      refine ⟨_, rfl, q, rfl, ⟨_, sqT hq⟩, fun D hD => ?_⟩
      refine lc_tup (K := K) (a := q) (xs := (nat2 js).map V.int) (fun i H4 => Same H H4 ∧ H4 D = some (.lst ((nat2 ((js.take i).filter fun n => !outdone es js n)).map V.int))) ⟨Same.new hD, upd_same⟩ (fun i H4 _ ⟨s4, _⟩ => sqT (s4 _ _ hq)) ?_ ?_
      · rintro i y H4 hi ⟨sm, e4⟩
        obtain ⟨j, hj, rfl⟩ := num_of hi
        have hj40 := (List.getElem?_eq_some_iff.mp hj).1
        refine ⟨rfl, _, rfl, _, rfl, _, rfl, b, q, "within", ws, es, js, j, rfl, bs.same sm, sm _ _ hq, hlt, hlt j (List.mem_of_getElem? hj), hjl, fun H5 s5 => ⟨_, rfl, ?_⟩⟩
        have e5 := s5 _ _ e4
        refine ite2 (fun hn => ?_) (fun hn => ?_)
        · refine ⟨_, rfl, _, e5, ?_, fun b o h => by rw [upd_ne (ne_of_none h hD)]; exact s5 _ _ (sm b o h), ?_⟩
          · rw [List.length_map, nat2_len]
            exact small1000 (Nat.le_trans (List.length_filter_le _ _) (by rw [List.length_take]; omega))
          · rw [upd_same, filt_snoc hj, if_pos hn, nat2_app, List.map_append]
            rfl
        · refine ⟨sm.trans s5, ?_⟩
          rw [e5, filt_snoc hj, if_neg hn, List.append_nil]
      · rintro H4 ⟨sm, e4⟩
        rw [List.length_map, nat2_len, List.take_length, ← out_maxB (ws := ws)] at e4
        refine ⟨D, _, rfl, .inl ⟨SqL.of e4, fun t ht => ?_⟩⟩
        exact k t _ upd_same (sm.trans (Same.new ht))
    · have d0 : (!decide (V.str man = V.str "within")) = true := by
        rw [decide_eq_false fun e => hm (V.str.inj e)]
        rfl
      refine ite2 (fun _ => ?_) (fun hf => absurd d0 hf)
      refine ⟨_, rfl, _, rfl, b, q, man, ws, es, js, rfl, bs, hq, hlt, hne, hjl, fun t m H1 M ht s1 => ?_⟩
      refine k t H1 ?_ s1
      rw [hi_maxB hm M]
      exact ht
abbrev sSpeaking : Stmt := top 32
theorem scSpeaking : FnScope ["book", "numbers", "highest"] ["book", "numbers"] (defScope sSpeaking) := ⟨rfl, rfl, rfl, by decide +kernel, rfl, by decide +kernel, by decide +kernel⟩

theorem man3_row {man : Str} (h : Man3 man) : man ≠ "row" := by
  rcases h with rfl | rfl | rfl <;> decide +kernel
theorem ok_speaking {f C aM : Addr} {fd : FuncData} (F : Fun K "speaking" "speaking" sSpeaking f fd) (T : Txt mg) (B : BkTxt K mg C aM) (HH : Has P w K mg base "_highest" ["book", "numbers"] 2 (spHighest C)) (HO : Has P w K mg base "_holds_all" ["book", "number", "numbers"] 2 (spHolds C)) :
    FnOk P w K mg base CX0 3 f fd ["book", "numbers"] (spSpeaking C) := by
  refine F.ok scSpeaking (fun vs H Q E h => ?_) (fun cdv A outer s H vs Q E hr h => ?_)
  · obtain ⟨b, q, man, ws, es, js, rfl, _⟩ := h
    rfl
  · obtain ⟨b, q, man, ws, es, js, rfl, bs, hman, hq, hlt, hnd, hjl, k⟩ := h
    refine ⟨_, (pss_cons (ps_if (pt_not (pt_truth (pv 1) (fun _ => rfl))) (pss_one (ps_ret pe_non)) pss_nil)
      (pss_cons (ps_if (pt_cmpR op_eq (pe_fld (pv 0) rfl) pe_str (nomark _)) (pss_one ps_never) pss_nil)
      (pss_cons (ps_set (i := 2) scSpeaking.nd rfl (by first | exact Or.inl rfl | exact Or.inr rfl) (pe_callH HH (hr.mono (by decide)) rfl (pa_cons (pv 0) (pa_cons (pv 1) pa_nil))))
      (pss_cons (ps_if (pt_cmpR op_gt (pe_callB call_len rfl T.len PySem.boot_len (pa_cons (pv 2) pa_nil)) pe_int (nomark _)) (pss_one (ps_ret pe_non)) pss_nil)
      (pss_cons (ps_if (PW.pt (pw_and (pt_cmpR op_eq (pe_fld (pv 0) rfl) pe_str (nomark _)) (pw_and1 (pt_not (pt_val (pe_callH HO (hr.mono (by decide)) rfl (pa_cons (pv 0) (pa_cons (pe_ix ix_tup (pv 2) pe_int (fun _ _ => rfl)) (pa_cons (pv 1) pa_nil))))))))) (pss_one (ps_ret pe_non)) pss_nil)
      (pss_one (ps_ret (pe_ix ix_tup (pv 2) pe_int (fun _ _ => rfl))))))))), ?_⟩
    obtain ⟨p, wt, ys, ⟨dx, hb⟩, hp, ents, hw⟩ := bs.ex
    have hq : H q = some (.tup ((nat2 js).map V.int)) := hq
    refine ⟨_, rfl, _, .inr (.inl ⟨_, sqT hq, rfl⟩), ?_⟩
    by_cases hne : js = []
    · subst hne
      exact iteT (k H (Same.refl H))
    have ne1 : (!!((nat2 js).map V.int).isEmpty) = false := by
      cases js with
      | nil => exact absurd rfl hne
      | cons j r => rfl
    refine ite2 (fun hf => ?_) (fun _ => ?_)
    · have hf' : (!!((nat2 js).map V.int).isEmpty) = true := hf
      rw [ne1] at hf'
      cases hf'
    refine ⟨_, rfl, b, C, dx, _, _, rfl, hb, B.cl, B.nM, bf_manner _ _ _, rfl, _, rfl, ?_⟩
    refine ite2 (fun hf => absurd (V.str.inj (of_decide_eq_true hf)) (man3_row hman)) (fun _ => ?_)
    refine ⟨_, rfl, _, rfl, b, q, man, ws, es, js, rfl, bs, hq, hlt, hne, hjl, fun t m H1 M ht s1 => ?_⟩
    have ht1 : H1 t = some (.tup ((nat2 (hi js (rkA man ws es) m)).map V.int)) := ht
    clear ht
    have hb1 := s1 _ _ hb
    refine ⟨_, rfl, _, _, rfl, .inr ⟨_, sqT ht1, rfl⟩, _, _, rfl, rfl, _, rfl, ?_⟩
    by_cases hmany : 1 < (hi js (rkA man ws es) m).length
    · refine ite2 (fun _ => ?_) (fun hf => ?_)
      · have e := lawRes_qua (beatA_ok man ws es) hnd hne (many_noWin hnd M hmany)
        rw [e] at k
        exact k H1 s1
      · refine absurd (decide_eq_true ?_) hf
        rw [List.length_map, nat2_len]
        omega
    have hone : ∃ n, hi js (rkA man ws es) m = [n] := by
      have := hi_ne M
      match hh : hi js (rkA man ws es) m with
      | [] => exact absurd hh this
      | [n] => exact ⟨n, rfl⟩
      | x :: y :: r => rw [hh] at hmany; simp at hmany
    obtain ⟨n, hn⟩ := hone
    have hnj := (hi_one M hn).1
    refine ite2 (fun hf => ?_) (fun _ => ?_)
    · have := of_decide_eq_true hf
      rw [List.length_map, nat2_len] at this
      omega
    rw [hn] at ht1
    refine ⟨_, rfl, b, C, dx, _, _, rfl, hb1, B.cl, B.nM, bf_manner _ _ _, rfl, _, rfl, ?_⟩
    by_cases hm : man = "within"
    · subst hm
      refine ite2 (fun _ => ?_) (fun hf => absurd (decide_eq_true rfl) hf)
      refine ⟨_, rfl, _, rfl, t, _, _, _, rfl, rfl, sqT ht1, at_of (j := 0) rfl rfl, _, rfl, b, q, "within", ws, es, js, n, rfl, bs.same s1, s1 _ _ hq, hlt, hlt n hnj, hjl, fun H2 s2 => ⟨_, rfl, ?_⟩⟩
      cases hh : holds es js n with
      | false =>
        refine iteT ?_
        have e := lawRes_qua (beatA_ok "within" ws es) hnd hne (within_noWin M hn hh)
        rw [e] at k
        exact k H2 (s1.trans s2)
      | true =>
        refine iteF ?_
        have e := lawRes_ent (beatA_ok "within" ws es) hnd (within_Win M hn hh)
        rw [e] at k
        exact ⟨_, rfl, t, _, _, _, rfl, rfl, sqT (s2 _ _ ht1), at_of (j := 0) rfl rfl, k H2 (s1.trans s2)⟩
    · refine ite2 (fun hf => absurd (V.str.inj (of_decide_eq_true hf)) hm) (fun _ => ?_)
      refine iteF ?_
      have e := lawRes_ent (beatA_ok man ws es) hnd (one_Win hm M hn)
      rw [e] at k
      exact ⟨_, rfl, t, _, _, _, rfl, rfl, sqT ht1, at_of (j := 0) rfl rfl, k H1 s1⟩
abbrev sSpeaker : Stmt := top 36
theorem scSpeaker : FnScope ["book", "cell", "numbers", "number"] ["book", "cell"] (defScope sSpeaker) := ⟨rfl, rfl, rfl, by decide +kernel, rfl, by decide +kernel, by decide +kernel⟩

theorem ok_speaker {f C aM : Addr} {fd : FuncData} (F : Fun K "speaker" "speaker" sSpeaker f fd) (B : BkTxt K mg C aM) (HF : Has P w K mg base "fitting" ["book", "cell"] 4 (spFitting C)) (HS : Has P w K mg base "speaking" ["book", "numbers"] 3 (spSpeaking C)) (HQ : Has P w K mg base "_in_quarrel" ["book", "numbers"] 3 (spQuarrel C)) :
    FnOk P w K mg base CX0 5 f fd ["book", "cell"] (spSpeaker C) := by
  refine F.ok scSpeaker (fun vs H Q E h => ?_) (fun cdv A outer s H vs Q E hr h => ?_)
  · obtain ⟨b, v, man, ws, es, ms, rfl, _⟩ := h
    rfl
  · obtain ⟨b, v, man, ws, es, ms, rfl, bs, hman, mv, mok, k⟩ := h
    refine ⟨_, (pss_cons (ps_set (i := 2) scSpeaker.nd rfl (by first | exact Or.inl rfl | exact Or.inr rfl) (pe_callH HF (hr.mono (by decide)) rfl (pa_cons (pv 0) (pa_cons (pv 1) pa_nil))))
      (pss_cons (ps_if (pt_not (pt_truth (pv 2) (fun _ => rfl))) (pss_one (ps_ret (pe_tup (pa_cons pe_str pa_nil)))) pss_nil)
      (pss_cons (ps_set (i := 3) scSpeaker.nd rfl (by first | exact Or.inl rfl | exact Or.inr rfl) (pe_callH HS (hr.mono (by decide)) rfl (pa_cons (pv 0) (pa_cons (pv 2) pa_nil))))
      (pss_cons (ps_if (pt_cmpR op_isN (pv 3) pe_non (nomark _)) (pss_one (ps_ret (pe_tup (pa_cons pe_str (pa_cons (pe_callH HQ (hr.mono (by decide)) rfl (pa_cons (pv 0) (pa_cons (pv 2) pa_nil))) pa_nil))))) pss_nil)
      (pss_one (ps_ret (pe_tup (pa_cons pe_str (pa_cons (pv 3) pa_nil))))))))), ?_⟩
    obtain ⟨p, wt, ys, hb, hp, ents, hw⟩ := bs.ex
    refine ⟨_, rfl, _, rfl, b, p, man, wt, v, ys, es, ms, rfl, hb, hp, ents, bs.ok, bs.len, mv, mok, fun q H1 hq s1 => ?_⟩
    refine ⟨_, rfl, _, .inr (.inl ⟨_, sqT hq, rfl⟩), ?_⟩
    by_cases hne : fitN es ms = []
    · rw [hne] at hq k
      rw [hne]
      refine iteT ⟨(by show 1 ≤ sizeLine; decide), fun t ht => ?_⟩
      exact k _ _ ⟨t, rfl, upd_same⟩ (s1.trans (Same.new ht))
    have ne1 : (!!((nat2 (fitN es ms)).map V.int).isEmpty) = false := by
      cases hx : fitN es ms with
      | nil => exact absurd hx hne
      | cons j r => rfl
    refine ite2 (fun hf => ?_) (fun _ => ?_)
    · have hf' : (!!((nat2 (fitN es ms)).map V.int).isEmpty) = true := hf
      rw [ne1] at hf'
      cases hf'
    have hl := fitN_len es ms
    have hl40 := bs.len
    refine ⟨_, rfl, _, rfl, b, q, man, ws, es, fitN es ms, rfl, bs.same s1, hman, hq, fit_lt, fit_nd es ms, by omega, fun H2 s2 => ?_⟩
    refine ⟨_, rfl, rfl, _, rfl, ?_⟩
    rcases lawRes_cases (beatA_ok man ws es) (fit_nd es ms) with ⟨e, r⟩ | ⟨n, hn, r⟩ | ⟨_, hn, r⟩
    · exact absurd e hne
    · rw [r] at k
      rw [r]
      refine iteF ⟨_, rfl, (by show 2 ≤ sizeLine; decide), fun t ht => ?_⟩
      exact k _ _ ⟨t, rfl, upd_same⟩ ((s1.trans s2).trans (Same.new ht))
    · rw [r] at k
      rw [r]
      refine iteT ⟨_, rfl, _, rfl, b, q, man, ws, es, fitN es ms, rfl, bs.same (s1.trans s2), s2 _ _ hq, fit_lt, hne, by omega, fun t H3 ht s3 => ⟨(by show 2 ≤ sizeLine; decide), fun t2 ht2 => ?_⟩⟩
      have q4 : Same H3 (upd H3 t2 (.tup [.str "quarrel", .ref t])) := Same.new ht2
      exact k _ _ ⟨t, ⟨t2, rfl, upd_same⟩, q4 _ _ ht⟩ (((s1.trans s2).trans s3).trans q4)
end
end Xci

namespace Xci
open PySem L2

section
variable {P : Program} {w : World} {K : PySem.W.Frag} {mg : Str → Option Value} {base : Heap}
abbrev sLawProper : Stmt := top 54
theorem scLawProper : FnScope ["one", "other"] ["one", "other"] (defScope sLawProper) := ⟨rfl, rfl, rfl, by decide +kernel, rfl, by decide +kernel, by decide +kernel⟩

theorem ok_proper {f : Addr} {fd : FuncData} (F : Fun K "_law_proper" "_law_proper" sLawProper f fd) (T : Txt mg) (HI : Has P w K mg base "_law_in" ["one", "other"] 1 spIn) : FnOk P w K mg base CX0 2 f fd ["one", "other"] spProper := by
  refine F.ok scLawProper (fun vs H Q E h => ?_) (fun cdv A outer s H vs Q E hr h => ?_)
  · obtain ⟨u, v, ms, ns, rfl, _⟩ := h
    rfl
  · obtain ⟨u, v, ms, ns, rfl, mu, mv, hl, k⟩ := h
    refine ⟨_, (pss_one (ps_ret (pe_and (pe_callH HI (hr.mono (by decide)) rfl (pa_cons (pv 0) (pa_cons (pv 1) pa_nil))) (pe_one (pe_cmpR op_lt (pe_callB call_len rfl T.len PySem.boot_len (pa_cons (pv 0) pa_nil)) (pe_callB call_len rfl T.len PySem.boot_len (pa_cons (pv 1) pa_nil)) (nomark _)))))), ?_⟩
    refine ⟨_, rfl, _, rfl, u, v, ms, ns, rfl, mu, mv, hl, fun H1 s1 => ⟨_, rfl, ?_⟩⟩
    obtain ⟨p, rfl, hp⟩ := mu
    obtain ⟨q, rfl, hq⟩ := mv
    have k' := k H1 s1
    refine ite2 (fun hin => ?_) (fun hin => ?_)
    · have hin' : inside ms ns = true := hin
      refine ⟨_, rfl, _, _, rfl, .inr ⟨_, sqT (s1 _ _ hp), rfl⟩, _, rfl, _, _, rfl, .inr ⟨_, sqT (s1 _ _ hq), rfl⟩, _, _, rfl, rfl, ?_⟩
      have e : decide ((((ms.map V.int).length : Nat) : Int) < (((ns.map V.int).length : Nat) : Int)) = (inside ms ns && decide (ms.length < ns.length)) := by
        rw [hin', Bool.true_and, List.length_map, List.length_map, Bool.eq_iff_iff, decide_eq_true_iff, decide_eq_true_iff]
        omega
      rw [← e] at k'
      exact k'
    · have hin' : inside ms ns = false := by
        cases h : inside ms ns with
        | false => rfl
        | true => exact absurd h hin
      rw [hin', Bool.false_and] at k'
      exact k'
abbrev sLawSum : Stmt := top 58
theorem scLawSum : FnScope ["weights", "marks", "mark"] ["weights", "marks"] (defScope sLawSum) := ⟨rfl, rfl, rfl, by decide +kernel, rfl, by decide +kernel, by decide +kernel⟩

theorem ok_sum {f : Addr} {fd : FuncData} (F : Fun K "_law_sum" "_law_sum" sLawSum f fd) (T : Txt mg) : FnOk P w K mg base CX0 1 f fd ["weights", "marks"] spSum := by
  refine F.ok scLawSum (fun vs H Q E h => ?_) (fun cdv A outer s H vs Q E hr h => ?_)
  · obtain ⟨wt, u, ws, ms, rfl, _⟩ := h
    rfl
  · obtain ⟨wt, u, ws, ms, rfl, ⟨wp, rfl, hwp⟩, hwl, ⟨q, rfl, hq⟩, mok, k⟩ := h
    refine ⟨_, (pss_one (ps_ret (pe_callB (cr_sum rfl) rfl T.sum (by decide +kernel) (pa_cons (pe_lc (own := [("mark", 2)]) rfl scLawSum.nd (pi_tup (pv 1)) (blkOk_by (N := ["weights", "marks", "mark"]) (sc := defScope sLawSum) (by decide +kernel)) (fun _ _ _ _ _ => (pg_name (i := 2) scLawSum.nd rfl (by first | exact Or.inl rfl | exact Or.inr rfl))) (fun _ _ _ _ _ => pts_nil) (fun _ _ _ _ _ => (pe_ix (show IxR _ (rIxT K) from ix_tup) (pv 0) (pv 2) (fun _ _ => rfl)))) pa_nil)))), ?_⟩
    have ml := mok.len
    refine ⟨_, rfl, q, rfl, ⟨_, sqT hq⟩, fun D hD => ?_⟩
    refine lc_tup (K := K) (a := q) (xs := ms.map V.int) (fun i H4 => Same H H4 ∧ H4 D = some (.lst (((ms.take i).map fun m => ws.getD m.toNat 0).map V.int))) ⟨Same.new hD, upd_same⟩ (fun i H4 _ ⟨s4, _⟩ => sqT (s4 _ _ hq)) ?_ ?_
    · rintro i y H4 hi ⟨sm, e4⟩
      obtain ⟨m, hm, rfl⟩ := int_of hi
      have mem := List.mem_of_getElem? hm
      have h0 := mok.lo m mem
      have h1 := mok.hi m mem
      refine ⟨rfl, _, rfl, _, rfl, wp, _, _, _, rfl, rfl, sqT (sm _ _ hwp), at_of (j := m.toNat) (by omega) (ws_at hwl h0 h1), ?_⟩
      refine ⟨_, e4, by rw [List.length_map, List.length_map, List.length_take]; exact small1000 (by omega), fun b o h => by rw [upd_ne (ne_of_none h hD)]; exact sm b o h, ?_⟩
      rw [upd_same, take_map hm, List.map_append]
      rfl
    · rintro H4 ⟨sm, e4⟩
      rw [List.length_map, List.take_length] at e4
      exact ⟨D, _, rfl, SqL.of e4, k H4 sm⟩
abbrev sLawBeats : Stmt := top 60
theorem scLawBeats : FnScope ["manner", "weights", "one", "other"] ["manner", "weights", "one", "other"] (defScope sLawBeats) := ⟨rfl, rfl, rfl, by decide +kernel, rfl, by decide +kernel, by decide +kernel⟩

theorem ok_beats {f : Addr} {fd : FuncData} (F : Fun K "_law_beats" "_law_beats" sLawBeats f fd) (T : Txt mg) (HP : Has P w K mg base "_law_proper" ["one", "other"] 2 spProper) (HS : Has P w K mg base "_law_sum" ["weights", "marks"] 1 spSum) :
    FnOk P w K mg base CX0 3 f fd ["manner", "weights", "one", "other"] spBeats := by
  refine F.ok scLawBeats (fun vs H Q E h => ?_) (fun cdv A outer s H vs Q E hr h => ?_)
  · obtain ⟨man, wt, u, v, ws, ms, ns, rfl, _⟩ := h
    rfl
  · obtain ⟨man, wt, u, v, ws, ms, ns, rfl, hman, hw, mu, mv, mok, nok, k⟩ := h
    refine ⟨_, (pss_cons (ps_if (pt_cmpR op_eq (pv 0) pe_str (nomark _)) (pss_one (ps_ret (pe_callH HP (hr.mono (by decide)) rfl (pa_cons (pv 3) (pa_cons (pv 2) pa_nil))))) pss_nil)
      (pss_cons (ps_if (pt_cmpR op_eq (pv 0) pe_str (nomark _)) (pss_one (ps_ret (pe_cmpR op_gt (pe_callB call_len rfl T.len PySem.boot_len (pa_cons (pv 2) pa_nil)) (pe_callB call_len rfl T.len PySem.boot_len (pa_cons (pv 3) pa_nil)) (nomark _)))) pss_nil)
      (pss_one (ps_ret (pe_cmpR op_gt (pe_callH HS (hr.mono (by decide)) rfl (pa_cons (pv 1) (pa_cons (pv 2) pa_nil))) (pe_callH HS (hr.mono (by decide)) rfl (pa_cons (pv 1) (pa_cons (pv 3) pa_nil))) (nomark _)))))), ?_⟩
    have ml := mok.len
    have nl := nok.len
    refine ⟨_, rfl, rfl, _, rfl, ?_⟩
    rcases hman with rfl | rfl | rfl
    · refine ite2 (fun _ => ?_) (fun hf => absurd (decide_eq_true rfl) hf)
      refine ⟨_, rfl, _, rfl, v, u, ns, ms, rfl, mv, mu, by omega, fun H1 s1 => ?_⟩
      have e : beatM "within" ws ms ns = (inside ns ms && decide (ns.length < ms.length)) := if_pos rfl
      rw [← e]
      exact k H1 s1
    · refine ite2 (fun hf => absurd (V.str.inj (of_decide_eq_true hf)) n_wi) (fun _ => ?_)
      refine ⟨_, rfl, rfl, _, rfl, ?_⟩
      refine ite2 (fun hf => absurd (V.str.inj (of_decide_eq_true hf)) (fun q => n_mostw q.symm)) (fun _ => ?_)
      rcases hw with ⟨hn, _⟩ | ⟨_, mw, hwl, hwb⟩
      · exact absurd rfl hn
      refine ⟨_, rfl, _, rfl, wt, u, ws, ms, rfl, mw, hwl, mu, mok, fun H1 s1 => ?_⟩
      refine ⟨_, rfl, _, rfl, wt, v, ws, ns, rfl, Tup.keep (TFr.same s1) mw, hwl, Tup.keep (TFr.same s1) mv, nok, fun H2 s2 => ?_⟩
      refine ⟨_, _, rfl, rfl, ?_⟩
      have e : beatM "weights" ws ms ns = decide ((ns.map fun m => ws.getD m.toNat 0).sum < (ms.map fun m => ws.getD m.toNat 0).sum) := by
        unfold beatM rk
        rw [if_neg n_wi, if_pos rfl, if_pos rfl]
      have k' := k H2 (s1.trans s2)
      rw [e] at k'
      exact k'
    · refine ite2 (fun hf => absurd (V.str.inj (of_decide_eq_true hf)) n_mosti) (fun _ => ?_)
      refine ⟨_, rfl, rfl, _, rfl, ?_⟩
      refine ite2 (fun _ => ?_) (fun hf => absurd (decide_eq_true rfl) hf)
      obtain ⟨p, rfl, hp⟩ := mu
      obtain ⟨q, rfl, hq⟩ := mv
      refine ⟨_, rfl, _, _, rfl, .inr ⟨_, sqT hp, rfl⟩, _, rfl, _, _, rfl, .inr ⟨_, sqT hq, rfl⟩, _, _, rfl, rfl, ?_⟩
      have e : beatM "most" ws ms ns = decide ((((ns.map V.int).length : Nat) : Int) < (((ms.map V.int).length : Nat) : Int)) := by
        unfold beatM rk
        rw [if_neg n_mosti, if_neg n_mostw, if_neg n_mostw, List.length_map, List.length_map]
      have k' := k H (Same.refl H)
      rw [e] at k'
      exact k'
abbrev sLawSpeaks : Stmt := top 61
theorem scLawSpeaks : FnScope ["manner", "entries", "weights", "cell", "fits", "number", "beaten", "other", "found"] ["manner", "entries", "weights", "cell"] (defScope sLawSpeaks) := ⟨rfl, rfl, rfl, by decide +kernel, rfl, by decide +kernel, by decide +kernel⟩

theorem find_at {α : Type} {p : α → Bool} : ∀ {l : List α} {i : Nat} {x : α}, (∀ y ∈ l.take i, p y = false) → l[i]? = some x → p x = true → l.find? p = some x
  | [], i, x, _, h, _ => by simp at h
  | y :: r, 0, x, _, h, hp => by
    have e : y = x := Option.some.inj h
    subst e
    rw [List.find?_cons, hp]
  | y :: r, i + 1, x, hf, h, hp => by
    have hy := hf y (by simp)
    rw [List.find?_cons, hy]
    exact find_at (i := i) (fun z hz => hf z (List.mem_cons_of_mem _ hz)) h hp
theorem ok_speaks {f : Addr} {fd : FuncData} (F : Fun K "_law_speaks" "_law_speaks" sLawSpeaks f fd) (T : Txt mg) (HF : Has P w K mg base "_law_fits" ["entries", "cell"] 2 (spFits K)) (HB : Has P w K mg base "_law_beats" ["manner", "weights", "one", "other"] 3 spBeats) :
    FnOk P w K mg base CX0 4 f fd ["manner", "entries", "weights", "cell"] (spSpeaks K) := by
  refine F.ok scLawSpeaks (fun vs H Q E h => ?_) (fun cdv A outer s H vs Q E hr h => ?_)
  · obtain ⟨man, p, wt, v, ys, ws, es, ms, rfl, _⟩ := h
    rfl
  · obtain ⟨man, p, wt, v, ys, ws, es, ms, rfl, hman, hw, hp, ents, eok, el, mv, k⟩ := h
    refine ⟨_, (pss_cons (ps_set (i := 4) scLawSpeaks.nd rfl (by first | exact Or.inl rfl | exact Or.inr rfl) (pe_callH HF (hr.mono (by decide)) rfl (pa_cons (pv 1) (pa_cons (pv 3) pa_nil))))
      (pss_cons (ps_if (pt_cmpR op_eq (pe_callB call_len rfl T.len PySem.boot_len (pa_cons (pv 4) pa_nil)) pe_int (nomark _)) (pss_one (ps_ret (pe_tup (pa_cons pe_str pa_nil)))) pss_nil)
      (pss_cons (ps_if (pt_cmpR op_eq (pv 0) pe_str (nomark _)) (pss_one ps_never) pss_nil)
      (pss_cons (ps_for PassesOwn.never rfl (pi_list (pv 4)) (pg_name (i := 5) scLawSpeaks.nd rfl (by first | exact Or.inl rfl | exact Or.inr rfl)) (pss_cons (ps_setLc (i := 6) (own := [("other", 7)]) rfl scLawSpeaks.nd rfl rfl (sw_true rfl rfl rfl (by decide +kernel)) (pi_list (pv 4)) (blkOk_by (N := ["manner", "entries", "weights", "cell", "fits", "number", "beaten", "other", "found"]) (sc := defScope sLawSpeaks) (by decide +kernel)) (fun _ _ _ _ _ => (pg_name (i := 7) scLawSpeaks.nd rfl (by first | exact Or.inl rfl | exact Or.inr rfl))) (fun _ _ _ _ _ => pts_one (pt_val (pe_callH HB (hr.mono (by decide)) rfl (pa_cons (pv 0) (pa_cons (pv 2) (pa_cons (pe_ix (show IxR _ (rIxT K) from ix_tup) (pe_ix (show IxR _ (rIxT K) from ix_tup) (pv 1) (pv 5) (fun _ _ => rfl)) pe_int (fun _ _ => rfl)) (pa_cons (pe_ix (show IxR _ (rIxT K) from ix_tup) (pe_ix (show IxR _ (rIxT K) from ix_tup) (pv 1) (pv 7) (fun _ _ => rfl)) pe_int (fun _ _ => rfl)) pa_nil))))))) (fun _ _ _ _ _ => (pv 7)))
      (pss_one (ps_if (pt_cmpR op_eq (pe_callB call_len rfl T.len PySem.boot_len (pa_cons (pv 6) pa_nil)) (pe_op op_sub (pe_callB call_len rfl T.len PySem.boot_len (pa_cons (pv 4) pa_nil)) pe_int) (nomark _)) (pss_one (ps_ret (pe_tup (pa_cons pe_str (pa_cons (pv 5) pa_nil))))) pss_nil))))
      (pss_cons (ps_set (i := 8) scLawSpeaks.nd rfl (by first | exact Or.inl rfl | exact Or.inr rfl) (pe_lst pa_nil))
      (pss_cons (ps_for PassesOwn.never rfl (pi_list (pv 4)) (pg_name (i := 5) scLawSpeaks.nd rfl (by first | exact Or.inl rfl | exact Or.inr rfl)) (pss_one (ps_if (pt_not (pt_val (pe_callB (cr_any rfl) rfl T.any (by decide +kernel) (pa_cons (pe_lc (own := [("other", 7)]) rfl scLawSpeaks.nd (pi_list (pv 4)) (blkOk_by (N := ["manner", "entries", "weights", "cell", "fits", "number", "beaten", "other", "found"]) (sc := defScope sLawSpeaks) (by decide +kernel)) (fun _ _ _ _ _ => (pg_name (i := 7) scLawSpeaks.nd rfl (by first | exact Or.inl rfl | exact Or.inr rfl))) (fun _ _ _ _ _ => pts_nil) (fun _ _ _ _ _ => (pe_callH HB (hr.mono (by decide)) rfl (pa_cons (pv 0) (pa_cons (pv 2) (pa_cons (pe_ix (show IxR _ (rIxT K) from ix_tup) (pe_ix (show IxR _ (rIxT K) from ix_tup) (pv 1) (pv 7) (fun _ _ => rfl)) pe_int (fun _ _ => rfl)) (pa_cons (pe_ix (show IxR _ (rIxT K) from ix_tup) (pe_ix (show IxR _ (rIxT K) from ix_tup) (pv 1) (pv 5) (fun _ _ => rfl)) pe_int (fun _ _ => rfl)) pa_nil))))))) pa_nil)))) (pss_one (ps_expr (pe_bm PySem.F.plainAttrs_list PySem.F.slot_list_append PySem.F.type_list_append mt_append (pv 8) (pa_cons (pv 5) pa_nil)))) pss_nil)))
      (pss_one (ps_ret (pe_tup (pa_cons pe_str (pa_cons (pe_callTy call_tuple_of rfl T.tuple (by decide +kernel) (pa_cons (pv 8) pa_nil)) pa_nil))))))))))), ?_⟩
    refine ⟨_, rfl, _, rfl, p, v, ys, es, ms, rfl, hp, ents, eok, el, mv, fun q H1 hq s1 => ?_⟩
    refine ⟨_, rfl, _, _, rfl, .inl ⟨_, SqL.of hq, rfl⟩, rfl, _, rfl, ?_⟩
    by_cases hne : fitN es ms = []
    · rw [hne] at hq k
      rw [hne]
      refine iteT ⟨(by show 1 ≤ sizeLine; decide), fun t ht => ?_⟩
      exact k _ _ ⟨t, rfl, upd_same⟩ (s1.trans (Same.new ht))
    have hjl := fitN_len es ms
    have hlt := fit_lt (es := es) (ms := ms)
    have unf : lawRes (fitN es ms) (beatA man ws es) = match (fitN es ms).find? (winC (fitN es ms) (beatA man ws es)) with
        | some n => .ent n
        | none => .qua ((fitN es ms).filter (maxB (fitN es ms) (beatA man ws es))) := if_neg hne
    rw [unf] at k
    clear unf
    generalize hjs : fitN es ms = js at *
    clear hjs
    have hjs0 : 0 < js.length := List.length_pos_iff.mpr hne
    refine ite2 (fun hf => ?_) (fun _ => ?_)
    · have := V.int.inj (of_decide_eq_true hf)
      rw [List.length_map, nat2_len] at this
      omega
    refine ⟨_, rfl, rfl, _, rfl, ?_⟩
    refine ite2 (fun hf => absurd (V.str.inj (of_decide_eq_true hf)) (man3_row hman)) (fun _ => ?_)
    have two : ∀ {H4 : Hp}, Same H1 H4 → ∀ j o, j ∈ js → o ∈ js → ∃ (r1 r2 : Addr) (u1 u2 : V) (e1 e2 : Ent), ys[j]? = some (.ref r1) ∧ ys[o]? = some (.ref r2) ∧ H4 r1 = some (.tup [u1, .str e1.2]) ∧ H4 r2 = some (.tup [u2, .str e2.2]) ∧ Xci.Mk H4 u1 e1.1 ∧ Xci.Mk H4 u2 e2.1 ∧ MarksOk 6 e1.1 ∧ MarksOk 6 e2.1 ∧ beatA man ws es j o = beatM man ws e1.1 e2.1 := by
      intro H4 s4 j o hj ho
      have s14 := s1.trans s4
      obtain ⟨r1, u1, e1, a1, b1, c1, d1⟩ := ent_at ents (hlt j hj)
      obtain ⟨r2, u2, e2, a2, b2, c2, d2⟩ := ent_at ents (hlt o ho)
      exact ⟨r1, r2, u1, u2, e1, e2, a1, a2, s14 _ _ b1, s14 _ _ b2, Tup.keep (TFr.same s14) c1, Tup.keep (TFr.same s14) c2, mk_ent eok d1, mk_ent eok d2, by unfold beatA; rw [mkA_at d1, mkA_at d2]⟩
    refine ⟨_, rfl, q, rfl, ⟨_, SqL.of hq⟩, for_list (K := K) (a := q) (xs := (nat2 js).map V.int) (fun i σ H4 => Same H1 H4 ∧ (∀ j ∈ js.take i, winC js (beatA man ws es) j = false) ∧ ∃ v5 v6 : Option V, σ = [some (.str man), some (.ref p), some wt, some v, some (.ref q), v5, v6, none, none])
      ⟨Same.refl _, by simp, none, none, rfl⟩ (fun i σ H4 _ ⟨s4, _⟩ => SqL.of (s4 _ _ hq)) ?_ ?_⟩
    · rintro i y σ H4 hi ⟨s4, hno, v5, v6, rfl⟩
      obtain ⟨j, hj, rfl⟩ := num_of hi
      have hjm := List.mem_of_getElem? hj
      refine ⟨_, rfl, q, rfl, ⟨_, SqL.of (s4 _ _ hq)⟩, fun D hD => ?_⟩
      refine lc_list (K := K) (a := q) (xs := (nat2 js).map V.int) (fun n H5 => Same H4 H5 ∧ H5 D = some (.lst ((nat2 ((js.take n).filter (beatA man ws es j))).map V.int))) ⟨Same.new hD, upd_same⟩ (fun n H5 _ ⟨s5, _⟩ => SqL.of (s5 _ _ (s4 _ _ hq))) ?_ ?_
      · rintro n y H5 hn ⟨s5, e5⟩
        obtain ⟨o, ho, rfl⟩ := num_of hn
        have s15 := s4.trans s5
        obtain ⟨r1, r2, u1, u2, e1, e2, a1, a2, b1, b2, c1, c2, d1, d2, be⟩ := two s15 j o hjm (List.mem_of_getElem? ho)
        have hp5 := s15 _ _ (s1 _ _ hp)
        refine ⟨rfl, _, rfl, _, rfl, _, rfl, _, rfl, p, _, _, _, rfl, rfl, sqT hp5, at_of (j := j) rfl a1, r1, _, _, _, rfl, rfl, sqT b1, at_of (j := 0) rfl rfl, _, rfl, _, rfl, p, _, _, _, rfl, rfl, sqT hp5, at_of (j := o) rfl a2, r2, _, _, _, rfl, rfl, sqT b2, at_of (j := 0) rfl rfl,
          man, wt, u1, u2, ws, e1.1, e2.1, rfl, hman, hw.keep (TFr.same (s1.trans s15)), c1, c2, d1, d2, fun H6 s6 => ⟨_, rfl, ?_⟩⟩
        have e6 := s6 _ _ e5
        rw [← be]
        have nlt := (List.getElem?_eq_some_iff.mp ho).1
        refine ite2 (fun hb => ?_) (fun hb => ?_)
        · refine ⟨_, rfl, _, e6, ?_, fun b o h => by rw [upd_ne (ne_of_none h hD)]; exact s6 _ _ (s5 b o h), ?_⟩
          · rw [List.length_map, nat2_len]
            exact small1000 (Nat.le_trans (List.length_filter_le _ _) (by rw [List.length_take]; omega))
          · rw [upd_same, filt_snoc ho, if_pos hb, nat2_app, List.map_append]
            rfl
        · refine ⟨s5.trans s6, ?_⟩
          rw [e6, filt_snoc ho, if_neg hb, List.append_nil]
      · rintro H5 ⟨s5, e5⟩
        rw [List.length_map, nat2_len, List.take_length] at e5
        have s15 := s4.trans s5
        refine ⟨_, rfl, _, _, rfl, .inl ⟨_, SqL.of e5, rfl⟩, _, rfl, _, _, rfl, .inl ⟨_, SqL.of (s15 _ _ hq), rfl⟩, _, _, rfl, rfl, rfl, _, rfl, ?_⟩
        have cond : decide (V.int ((((nat2 (js.filter (beatA man ws es j))).map V.int).length : Nat) : Int) = V.int (((((nat2 js).map V.int).length : Nat) : Int) - 1)) = winC js (beatA man ws es) j := by
          unfold winC
          rw [Bool.eq_iff_iff, decide_eq_true_iff, decide_eq_true_iff, List.length_map, List.length_map, nat2_len, nat2_len]
          constructor
          · intro h
            have := V.int.inj h
            omega
          · intro h
            congr 1
            omega
        refine ite2 (fun hf => ?_) (fun hf => ?_)
        · have hf' := cond.symm.trans hf
          have fd := find_at hno hj hf'
          rw [fd] at k
          refine ⟨_, rfl, (by show 2 ≤ sizeLine; decide), fun t ht => ?_⟩
          exact k _ _ ⟨t, rfl, upd_same⟩ ((s1.trans s15).trans (Same.new ht))
        · have hf' : winC js (beatA man ws es) j = false := by
            cases h : winC js (beatA man ws es) j with
            | false => rfl
            | true => exact absurd (cond.trans h) hf
          refine ⟨s15, fun m hm => ?_, _, _, rfl⟩
          rw [List.take_add_one, hj] at hm
          rcases List.mem_append.mp hm with h | h
          · exact hno m h
          · rw [List.mem_singleton.mp h]; exact hf'
    · rintro σ H4 ⟨s4, hno, v5, v6, rfl⟩
      rw [List.length_map, nat2_len, List.take_length] at hno
      have fd : js.find? (winC js (beatA man ws es)) = none := List.find?_eq_none.mpr fun x hx => by rw [hno x hx]; exact Bool.false_ne_true
      rw [fd] at k
      refine ⟨Nat.zero_le _, fun L hL => ?_⟩
      have s5 : Same H4 (upd H4 L (.lst [])) := Same.new hL
      have e5 : (upd H4 L (.lst [])) L = some (.lst []) := upd_same
      have hL1 : H1 L = Option.none := s4.free hL
      generalize upd H4 L (.lst []) = H5 at *
      have f15 : ∀ b o, H1 b = some o → b ≠ L → H5 b = some o := fun b o h _ => s5 _ _ (s4 _ _ h)
      refine ⟨_, rfl, q, rfl, ⟨_, SqL.of (s5 _ _ (s4 _ _ hq))⟩, for_list (K := K) (a := q) (xs := (nat2 js).map V.int) (fun i σ H6 => Same H1 H6 ∧ H6 L = some (.lst ((nat2 ((js.take i).filter (maxB js (beatA man ws es)))).map V.int)) ∧ ∃ v5 v6 : Option V, σ = [some (.str man), some (.ref p), some wt, some v, some (.ref q), v5, v6, none, some (.ref L)])
        ⟨s4.trans s5, e5, _, _, rfl⟩ (fun i σ H6 _ ⟨s6, _⟩ => SqL.of (s6 _ _ hq)) ?_ ?_⟩
      · rintro i y σ H6 hi ⟨s6, e6, v5, v6, rfl⟩
        obtain ⟨j, hj, rfl⟩ := num_of hi
        have hjm := List.mem_of_getElem? hj
        have hlt1 := (List.getElem?_eq_some_iff.mp hj).1
        refine ⟨_, rfl, q, rfl, ⟨_, SqL.of (s6 _ _ hq)⟩, fun D hD => ?_⟩
        refine lc_list (K := K) (a := q) (xs := (nat2 js).map V.int) (fun n H7 => Same H6 H7 ∧ H7 D = some (.lst (((js.take n).map fun o => beatA man ws es o j).map V.bl))) ⟨Same.new hD, upd_same⟩ (fun n H7 _ ⟨s7, _⟩ => SqL.of (s7 _ _ (s6 _ _ hq))) ?_ ?_
        · rintro n y H7 hn ⟨s7, e7⟩
          obtain ⟨o, ho, rfl⟩ := num_of hn
          have s17 := s6.trans s7
          obtain ⟨r1, r2, u1, u2, e1, e2, a1, a2, b1, b2, c1, c2, d1, d2, be⟩ := two s17 o j (List.mem_of_getElem? ho) hjm
          have hp7 := s17 _ _ (s1 _ _ hp)
          refine ⟨rfl, _, rfl, _, rfl, _, rfl, _, rfl, p, _, _, _, rfl, rfl, sqT hp7, at_of (j := o) rfl a1, r1, _, _, _, rfl, rfl, sqT b1, at_of (j := 0) rfl rfl, _, rfl, _, rfl, p, _, _, _, rfl, rfl, sqT hp7, at_of (j := j) rfl a2, r2, _, _, _, rfl, rfl, sqT b2, at_of (j := 0) rfl rfl,
            man, wt, u1, u2, ws, e1.1, e2.1, rfl, hman, hw.keep (TFr.same (s1.trans s17)), c1, c2, d1, d2, fun H8 s8 => ?_⟩
          have nlt := (List.getElem?_eq_some_iff.mp ho).1
          refine ⟨_, s8 _ _ e7, by rw [List.length_map, List.length_map, List.length_take]; exact small1000 (by omega), fun b o h => by rw [upd_ne (ne_of_none h hD)]; exact s8 _ _ (s7 b o h), ?_⟩
          rw [upd_same, take_map ho, List.map_append, ← be]
          rfl
        · rintro H7 ⟨s7, e7⟩
          rw [List.length_map, nat2_len, List.take_length] at e7
          refine ⟨D, _, rfl, SqL.of e7, _, rfl, ?_⟩
          have cond : (!((js.map fun o => beatA man ws es o j).any id)) = maxB js (beatA man ws es) j := by
            unfold maxB
            rw [List.any_map]
            rfl
          have eL := s7 _ _ e6
          refine ite2 (fun hb => ?_) (fun hb => ?_)
          · have hb := cond.symm.trans hb
            refine ⟨_, rfl, .inl ⟨rfl, _, SqL.of eL⟩, _, rfl, L, _, _, rfl, rfl, eL, ?_, ?_⟩
            · rw [List.length_map, nat2_len]
              exact small1000 (Nat.le_trans (List.length_filter_le _ _) (by rw [List.length_take]; omega))
            · refine ⟨fun b o h => by rw [upd_ne (ne_of_none h hL1)]; exact s7 _ _ (s6 b o h), ?_, _, _, rfl⟩
              rw [upd_same, filt_snoc hj, if_pos hb, nat2_app, List.map_append]
              rfl
          · have hb : ¬ maxB js (beatA man ws es) j = true := fun e => hb (cond.trans e)
            refine ⟨s6.trans s7, ?_, _, _, rfl⟩
            rw [eL, filt_snoc hj, if_neg hb, List.append_nil]
      · rintro σ H6 ⟨s6, e6, v5, v6, rfl⟩
        rw [List.length_map, nat2_len, List.take_length] at e6
        refine ⟨_, rfl, L, _, rfl, .inl ⟨SqL.of e6, fun t ht => ⟨(by show 2 ≤ sizeLine; decide), fun t2 ht2 => ?_⟩⟩⟩
        have q1 : Same H6 (upd H6 t (.tup ((nat2 (js.filter (maxB js (beatA man ws es)))).map V.int))) := Same.new ht
        have q2 : Same (upd H6 t (.tup ((nat2 (js.filter (maxB js (beatA man ws es)))).map V.int))) _ := Same.new (o := .tup [.str "quarrel", .ref t]) ht2
        exact k _ _ ⟨t, ⟨t2, rfl, upd_same⟩, q2 _ _ upd_same⟩ ((s1.trans s6).trans (q1.trans q2))

/-- alike: two flat ones, or two tuples of flat ones -/
def spLike01 : Sp := fun vs H Q E => spLike0 vs H Q E ∨ spLike1 vs H Q E
def spLike2 : Sp := fun vs H Q _ => ∃ (u v : V) (r : Res), vs = [u, v] ∧ ResAt H u r ∧ ResAt H v r ∧ (∀ l, r = .qua l → l.length ≤ 1000) ∧ ∀ H', Same H H' → Q (.bl true) H'
end
end Xci

namespace Xci
open PySem L2
section
variable {P : Program} {w : World} {K : PySem.W.Frag} {mg : Str → Option Value} {base : Heap}
theorem ok_speakingRow {f C aM : Addr} {fd : FuncData} (F : Fun K "speaking" "speaking" sSpeaking f fd) (B : BkTxt K mg C aM) : FnOk P w K mg base CX0 1 f fd ["book", "numbers"] (spSpeakingRow C) := by
  refine F.ok scSpeaking (fun vs H Q E h => ?_) (fun cdv A outer s H vs Q E hr h => ?_)
  · obtain ⟨b, p, q, wt, js, rfl, _⟩ := h
    rfl
  · obtain ⟨b, p, q, wt, js, rfl, ⟨dx, hb⟩, hq, k⟩ := h
    refine ⟨_, (pss_cons (ps_if (pt_not (pt_truth (pv 1) (fun _ => rfl))) (pss_one (ps_ret pe_non)) pss_nil)
      (pss_cons (ps_if (pt_cmpR op_eq (pe_fld (pv 0) rfl) pe_str (nomark _)) (pss_one (ps_ret (pe_ix ix_tup (pv 1) pe_int (fun _ _ => rfl)))) pss_nil)
      pss_never)), ?_⟩
    refine ⟨_, rfl, _, .inr (.inl ⟨_, sqT hq, rfl⟩), ?_⟩
    cases js with
    | nil => exact iteT k
    | cons j r =>
      refine iteF ?_
      refine ⟨_, rfl, b, C, dx, _, _, rfl, hb, B.cl, B.nM, bf_manner _ _ _, rfl, _, rfl, ?_⟩
      refine ite2 (fun _ => ?_) (fun hf => absurd (decide_eq_true rfl) hf)
      exact ⟨_, rfl, q, _, _, _, rfl, rfl, sqT hq, at_of (j := 0) rfl rfl, k⟩
/-- which one of the fitting entries speaks, in any manner -/
def spWho (C : Addr) : Sp := fun vs H Q _ => ∃ (b q : Addr) (man : Str) (ws : List Int) (es : List Ent) (ms : List Int), vs = [.ref b, .ref q] ∧ BookSt C H b man ws es ∧ Man man ∧ Nums H q (fitN es ms) ∧ ∀ H', Same H H' → Q (numV (whoN man ws es ms)) H'
theorem ok_who {f C : Addr} {fd : FuncData} (g : FnOk P w K mg base CX0 3 f fd ["book", "numbers"] (spSpeaking C)) (g' : FnOk P w K mg base CX0 1 f fd ["book", "numbers"] (spSpeakingRow C)) : FnOk P w K mg base CX0 3 f fd ["book", "numbers"] (spWho C) :=
  ok_imp (ok_both g (g'.mono (by decide))) fun vs H Q E ⟨b, q, man, ws, es, ms, e, bs, hm, hq, k⟩ => by
    subst e
    rcases n_row3 hm with rfl | ⟨hn, h3⟩
    · obtain ⟨p, wt, ys, hb, _⟩ := bs.ex
      refine .inr ⟨b, p, q, wt, fitN es ms, rfl, hb, hq, ?_⟩
      rw [← who_row ws]
      exact k H (Same.refl H)
    · refine .inl ⟨b, q, man, ws, es, fitN es ms, rfl, bs, h3, hq, fit_lt, fit_nd _ _, Nat.le_trans (fitN_len es ms) bs.len, fun H' s => ?_⟩
      rw [← who_res hn]
      exact k H' s
def spHeardN (C : Addr) : Sp := fun vs H Q _ => ∃ (b q : Addr) (man : Str) (ws : List Int) (es : List Ent) (ms : List Int), vs = [.ref b, .ref q] ∧ BookSt C H b man ws es ∧ Man man ∧ Nums H q (fitN es ms) ∧ ∀ H', Same H H' → Q (formV (heard man ws es ms)) H'
abbrev sFormAmong : Stmt := top 37
theorem scFormAmong : FnScope ["book", "numbers", "number"] ["book", "numbers"] (defScope sFormAmong) := ⟨rfl, rfl, rfl, by decide +kernel, rfl, by decide +kernel, by decide +kernel⟩

theorem ok_among {f C aM : Addr} {fd : FuncData} (F : Fun K "form_among" "form_among" sFormAmong f fd) (B : BkTxt K mg C aM) (HSp : Has P w K mg base "speaking" ["book", "numbers"] 3 (spWho C)) : FnOk P w K mg base CX0 4 f fd ["book", "numbers"] (spHeardN C) := by
  refine F.ok scFormAmong (fun vs H Q E h => ?_) (fun cdv A outer s H vs Q E hr h => ?_)
  · obtain ⟨b, q, man, ws, es, ms, rfl, _⟩ := h
    rfl
  · obtain ⟨b, q, man, ws, es, ms, rfl, bs, hm, hq, k⟩ := h
    refine ⟨_, (pss_cons (ps_set (i := 2) scFormAmong.nd rfl (by first | exact Or.inl rfl | exact Or.inr rfl) (pe_callH HSp (hr.mono (by decide)) rfl (pa_cons (pv 0) (pa_cons (pv 1) pa_nil))))
      (pss_one (ps_ret (pe_ifExp (pt_cmpR op_isN (pv 2) pe_non (nomark _)) pe_non (pe_ix ix_tup (pe_ix ix_tup (pe_fld (pv 0) rfl) (pv 2) (fun _ _ => rfl)) pe_int (fun _ _ => rfl)))))), ?_⟩
    refine ⟨_, rfl, _, rfl, b, q, man, ws, es, ms, rfl, bs, hm, hq, fun H1 s1 => ?_⟩
    obtain ⟨p, wt, ys, ⟨dx, hb⟩, hp, ents, _⟩ := (bs.same s1).ex
    have k1 := k H1 s1
    cases hw : whoN man ws es ms with
    | none =>
      rw [heard_non hw] at k1
      refine ⟨_, rfl, rfl, _, rfl, ?_⟩
      refine iteT ?_
      exact k1
    | some j =>
      obtain ⟨r, u, e, hy, hr0, mu, he⟩ := ent_at ents (who_lt hw)
      rw [heard_at hw he] at k1
      refine ⟨_, rfl, rfl, _, rfl, ?_⟩
      refine iteF ?_
      exact ⟨_, rfl, b, C, dx, _, _, rfl, hb, B.cl, B.nE, bf_entries _ _ _, _, rfl, p, _, _, _, rfl, rfl, sqT hp, at_of (j := j) rfl hy, r, _, _, _, rfl, rfl, sqT hr0, at_of (j := 1) rfl rfl, k1⟩
def spHeard (C : Addr) : Sp := fun vs H Q _ => ∃ (b : Addr) (v : V) (man : Str) (ws : List Int) (es : List Ent) (ms : List Int), vs = [.ref b, v] ∧ BookSt C H b man ws es ∧ Man man ∧ Xci.Mk H v ms ∧ MarksOk 6 ms ∧ ∀ H', Same H H' → Q (formV (heard man ws es ms)) H'
abbrev sFormAt : Stmt := top 38
theorem scFormAt : FnScope ["book", "cell"] ["book", "cell"] (defScope sFormAt) := ⟨rfl, rfl, rfl, by decide +kernel, rfl, by decide +kernel, by decide +kernel⟩

theorem ok_formAt {f C : Addr} {fd : FuncData} (F : Fun K "_form_at" "_form_at" sFormAt f fd) (HFi : Has P w K mg base "fitting" ["book", "cell"] 4 (spFitting C)) (HAm : Has P w K mg base "form_among" ["book", "numbers"] 4 (spHeardN C)) : FnOk P w K mg base CX0 5 f fd ["book", "cell"] (spHeard C) := by
  refine F.ok scFormAt (fun vs H Q E h => ?_) (fun cdv A outer s H vs Q E hr h => ?_)
  · obtain ⟨b, v, man, ws, es, ms, rfl, _⟩ := h
    rfl
  · obtain ⟨b, v, man, ws, es, ms, rfl, bs, hm, mv, mok, k⟩ := h
    refine ⟨_, (pss_one (ps_ret (pe_callH HAm (hr.mono (by decide)) rfl (pa_cons (pv 0) (pa_cons (pe_callH HFi (hr.mono (by decide)) rfl (pa_cons (pv 0) (pa_cons (pv 1) pa_nil))) pa_nil))))), ?_⟩
    obtain ⟨p, wt, ys, hb, hp, ents, _⟩ := bs.ex
    refine ⟨_, rfl, _, rfl, _, rfl, b, p, man, wt, v, ys, es, ms, rfl, hb, hp, ents, bs.ok, bs.len, mv, mok, fun q H1 hq s1 => ?_⟩
    exact ⟨b, q, man, ws, es, ms, rfl, bs.same s1, hm, hq, fun H2 s2 => k H2 (s1.trans s2)⟩
end
end Xci

namespace Xci
open PySem L2
section
variable {P : Program} {w : World} {K : PySem.W.Frag} {mg : Str → Option Value} {base : Heap}
theorem walk_zipT {K : PySem.W.Frag} {a b : Addr} {xs ys : List V} (hl : xs.length = ys.length) : Walk (RZ.ItzT K a b) xs.length (fun H => SqT K H a xs ∧ SqT K H b ys) (fun i H v H' => ∃ T x y, v = .ref T ∧ H T = none ∧ H' = upd H T (.tup [x, y]) ∧ xs[i]? = some x ∧ ys[i]? = some y) :=
  ⟨fun i H hi q => ⟨xs, ys, xs[i], ys[i]'(hl ▸ hi), q.1, q.2, List.getElem?_eq_getElem hi, List.getElem?_eq_getElem (hl ▸ hi)⟩, fun H q => ⟨xs, ys, q.1, q.2, .inl (Nat.le_refl _)⟩, fun i H v H' hi q ⟨T, x, y, e1, e2, e3, f, g⟩ => ⟨T, x, y, e1, e2, e3, f xs q.1, g ys q.2⟩⟩
/-- what tells that an instance is one of its class -/
structure ClsTy (K : PySem.W.Frag) (C : Addr) : Prop where
  cl : Cls K C
  ha : PySem.W.findIn K (.ref C) "__class__" = some (some (.builtin "object.__class__"))
  hn : PySem.W.specialIn K (.builtin "object.__class__") "__get__" = some (some (.builtin "getset_descriptor.__get__"))
  htk : PySem.W.takesIn K (.builtin "object.__class__") = some true
  hm : PySem.W.mroIn K C (.type "object") = some true
theorem ClsTy.is {C a dx : Addr} {fs : List (Str × V)} {H : Hp} (c : ClsTy K C) (h : H a = some (.ins C dx fs)) : TyX K H (.ref a) (.ref C) := .base (.ins h c.cl c.ha c.hn c.htk c.hm)
theorem kit_own (C : Addr) : PySem.W.kitOne K (.ref C) (.ref C) = some true := by
  unfold PySem.W.kitOne
  rw [if_pos (beq_self_eq_true _)]
/-- one family, told by the same tuple of cells -/
def FamSame (CF : Addr) (a b : Addr) (H : Hp) : Prop := ∃ (many : Int) (p : Addr) (ys : List V) (cells : List (List Int)), FamAt CF H a many p ∧ FamAt CF H b many p ∧ H p = some (.tup ys) ∧ Mks H ys cells
theorem dp_rowsT {H : Hp} : ∀ {ys : List V} {cs : List (List Int)}, Mks H ys cs → DpAll K H ys (cs.map fun c => PyData.tuple (c.map PyData.int))
  | _, _, .nil => .nil
  | _, _, .cons m r => .cons (dp_marks m) (dp_rowsT r)
theorem sh_rowsT (cs : List (List Int)) : SeqAt.shaped (.tuple (cs.map fun c => PyData.tuple (c.map PyData.int))) = true := by
  obtain ⟨a, b⟩ := lay_rows cs
  have d : PyData.depth (.tuple (cs.map fun c => PyData.tuple (c.map PyData.int))) ≤ 64 := by
    simp only [PyData.depth]
    omega
  unfold SeqAt.shaped
  rw [decide_eq_true d, Bool.and_true]
  simpa [PyData.canLay0] using a
abbrev sFamilyEq : Stmt := inClass (top 44) 1
theorem scFamilyEq : FnScope ["self", "other"] ["self", "other"] (defScope sFamilyEq) := ⟨rfl, rfl, rfl, by decide +kernel, rfl, by decide +kernel, by decide +kernel⟩

theorem ok_famEq {f C : Addr} {fd : FuncData} (F : Fun K "__eq__" "Family.__eq__" sFamilyEq f fd) (T : Txt mg) (FT : FamTxt K mg C) (CT : ClsTy K C) : FnOk P w K mg base CX0 1 f fd ["self", "other"] (spEq (FamSame C)) := by
  refine F.ok scFamilyEq (fun vs H Q E h => ?_) (fun cdv A outer s H vs Q E hr h => ?_)
  · obtain ⟨a, b, rfl, _⟩ := h
    rfl
  · obtain ⟨a, b, rfl, ⟨many, p, ys, cells, ⟨dx, ha⟩, ⟨dy, hb⟩, hp, ms⟩, k⟩ := h
    refine ⟨_, (pss_one (ps_ret (pe_and (pe_callB call_isi rfl T.isinstance (by decide +kernel) (pa_cons (pv 1) (pa_cons (pe_glob (v := .ref C) rfl FT.mgC rfl) pa_nil))) (pe_and (pe_cmpR op_eq (pe_fld (pv 0) rfl) (pe_fld (pv 1) rfl) (nomark _)) (pe_one (pe_cmpR (op_eqD (hu64 hr)) (pe_fld (pv 0) rfl) (pe_fld (pv 1) rfl) (nomark _))))))), ?_⟩
    refine ⟨_, rfl, _, _, _, _, true, rfl, .own C, CT.is hb, kit_own C, _, rfl, ?_⟩
    refine ⟨_, rfl, a, C, dx, _, _, rfl, ha, FT.cl, FT.nM, famF_many _ _, _, rfl, b, C, dy, _, _, rfl, hb, FT.cl, FT.nM, famF_many _ _, rfl, _, rfl, ?_⟩
    refine ite2 (fun _ => ?_) (fun hf => absurd (decide_eq_true rfl) hf)
    refine ⟨_, rfl, a, C, dx, _, _, rfl, ha, FT.cl, FT.nC, famF_cells _ _, _, rfl, b, C, dy, _, _, rfl, hb, FT.cl, FT.nC, famF_cells _ _, ?_⟩
    refine ⟨_, _, .tup (sqT hp) (dp_rowsT ms), .tup (sqT hp) (dp_rowsT ms), sh_rowsT _, sh_rowsT _, ?_⟩
    rw [eqv_same (sh_rowsT cells)]
    exact k H Ext.rfl'
/-- the own == of a class -/
structure HasE (P : Program) (w : World) (K : PySem.W.Frag) (mg : Str → Option Value) (base : Heap) (C : Addr) (k : Nat) (R : Addr → Addr → Hp → Prop) : Prop where
  ex : ∃ (f : Addr) (fd : FuncData), FnOk P w K mg base CX0 k f fd ["self", "other"] (spEq R) ∧ PySem.W.findIn K (.ref C) "__eq__" = some (some (.ref f)) ∧ PySem.W.isFn K (.ref f) = true ∧ Binds K fd ["self", "other"] []
theorem op_eqH {X : Cx} {C : Addr} {k : Nat} {R : Addr → Addr → Hp → Prop} (h : HasE X.prog X.w X.K X.mg X.base C k R) (hr : Room k X.A) : OpR X (compareOp .Eq) (rEqG (DIns C R)) := by
  obtain ⟨f, fd, F, e, i, b⟩ := h.ex
  exact op_eqG (rcG_ins F e i b pass0) hr
def spLimited (CF C : Addr) : Sp := fun vs H Q _ => ∃ (fam p : Addr) (many : Int) (pc : Addr) (ys : List V) (fs : List (Option Str)), vs = [.ref fam, .ref p] ∧ FamAt CF H fam many pc ∧ H pc = some (.tup ys) ∧ H p = some (.tup (fs.map formV)) ∧ FormsOk ys.length fs ∧
  ∀ (t : Addr) (H' : Hp), TabAt C H' t fam p → Same H H' → Q (.ref t) H'
abbrev sLimited : Stmt := top 19
theorem scLimited : FnScope ["family", "forms"] ["family", "forms"] (defScope sLimited) := ⟨rfl, rfl, rfl, by decide +kernel, rfl, by decide +kernel, by decide +kernel⟩

theorem ok_limited {f C CF : Addr} {fd : FuncData} (F : Fun K "limited" "limited" sLimited f fd) (T : Txt mg) (c : TabCst mg) (HU : Has P w K mg base "_unlike" ["forms"] 1 spUnlike) (HTb : HasC P w K mg base "Table" C ["self", "family", "forms"] 3 (spTab CF C)) :
    FnOk P w K mg base CX0 5 f fd ["family", "forms"] (spLimited CF C) := by
  refine F.ok scLimited (fun vs H Q E h => ?_) (fun cdv A outer s H vs Q E hr h => ?_)
  · obtain ⟨fam, p, many, pc, ys, fs, rfl, _⟩ := h
    rfl
  · obtain ⟨fam, p, many, pc, ys, fs, rfl, ⟨df, hf⟩, hc, hp, ok, k⟩ := h
    refine ⟨_, (pss_cons (ps_if (pt_cmpR op_gt (pe_callB call_len rfl T.len PySem.boot_len (pa_cons (pe_callH HU (hr.mono (by decide)) rfl (pa_cons (pv 1) pa_nil)) pa_nil)) (pe_gint rfl c.MOST_FORMS) (nomark _)) (pss_one ps_never) pss_nil)
      (pss_one (ps_ret (pe_makeH HTb (hr.mono (by decide)) rfl (pa_cons (pv 0) (pa_cons (pv 1) pa_nil)))))), ?_⟩
    have size := ok.len
    have few := ok.few
    refine ⟨_, rfl, p, fs, rfl, hp, by omega, fun q zs H1 rise hq s1 => ?_⟩
    refine ⟨_, zs.length, rfl, .inl ⟨_, SqL.of hq, by rw [List.length_map]⟩, _, _, rfl, rfl, _, rfl, ?_⟩
    refine ite2 (fun hf => ?_) (fun _ => ?_)
    · have hf' : (12 : Int) < ((zs.length : Nat) : Int) := of_decide_eq_true hf
      have := ok.unlike zs rise
      omega
    refine ⟨_, rfl, _, rfl, ?_⟩
    intro y dy ny ndy ney
    have s6 : Same H1 (upd (upd H1 dy (.own y)) y (.ins C dy [])) := fun b o e => by rw [upd_ne (ne_of_none e ny), upd_ne (ne_of_none e ndy)]; exact e
    have nf : y ≠ fam := (ne_of_none (s1 _ _ hf) ny).symm
    refine ⟨y, dy, fam, many, pc, ys, p, fs, rfl, upd_same, ⟨df, s6 _ _ (s1 _ _ hf)⟩, nf, s6 _ _ (s1 _ _ hc), s6 _ _ (s1 _ _ hp), ok, fun H6 ht kq => ?_⟩
    have s56 : Same H1 H6 := fun b o e => kq b o (s6 b o e) (ne_of_none e ny)
    exact ⟨rfl, k y H6 ht (s1.trans s56)⟩
def spMade (CF C CB : Addr) : Sp := fun vs H Q _ => ∃ (b fam : Addr) (man : Str) (ws : List Int) (es : List Ent) (many : Int) (pc : Addr) (cy : List V) (cells : List (List Int)), vs = [.ref b, .ref fam] ∧ BookSt CB H b man ws es ∧ Man man ∧ FamAt CF H fam many pc ∧ H pc = some (.tup cy) ∧ Mks H cy cells ∧ FamOk many cells ∧ es.length ≤ 12 ∧
  ∀ (t p : Addr) (H' : Hp), TabAt C H' t fam p → H' p = some (.tup ((heardAll man ws es cells).map formV)) → Same H H' → Q (.ref t) H'
def spFormsMade (CF CB : Addr) : Sp := fun vs H Q _ => ∃ (b fam : Addr) (man : Str) (ws : List Int) (es : List Ent) (many : Int) (pc : Addr) (cy : List V) (cells : List (List Int)), vs = [.ref b, .ref fam] ∧ BookSt CB H b man ws es ∧ Man man ∧ FamAt CF H fam many pc ∧ H pc = some (.tup cy) ∧ Mks H cy cells ∧ FamOk many cells ∧
  ∀ (p : Addr) (H' : Hp), H' p = some (.tup ((heardAll man ws es cells).map formV)) → Same H H' → Q (.ref p) H'
abbrev sFormsMade : Stmt := top 39
theorem scFormsMade : FnScope ["book", "family", "cell"] ["book", "family"] (defScope sFormsMade) := ⟨rfl, rfl, rfl, by decide +kernel, rfl, by decide +kernel, by decide +kernel⟩

theorem ok_formsMade {f CF CB : Addr} {fd : FuncData} (F : Fun K "forms_made" "forms_made" sFormsMade f fd) (T : Txt mg) (FT : FamTxt K mg CF) (HFA : Has P w K mg base "_form_at" ["book", "cell"] 5 (spHeard CB)) :
    FnOk P w K mg base CX0 6 f fd ["book", "family"] (spFormsMade CF CB) := by
  refine F.ok scFormsMade (fun vs H Q E h => ?_) (fun cdv A outer s H vs Q E hr h => ?_)
  · obtain ⟨b, fam, man, ws, es, many, pc, cy, cells, rfl, _⟩ := h
    rfl
  · obtain ⟨b, fam, man, ws, es, many, pc, cy, cells, rfl, bs, hm, ⟨df, hf⟩, cp, cm, fok, k⟩ := h
    refine ⟨_, (pss_one (ps_ret (pe_callTy call_tuple_of rfl T.tuple (by decide +kernel) (pa_cons (pe_lc (own := [("cell", 2)]) rfl scFormsMade.nd (pi_tup (pe_fld (pv 1) rfl)) (blkOk_by (N := ["book", "family", "cell"]) (sc := defScope sFormsMade) (by decide +kernel)) (fun _ _ _ _ _ => (pg_name (i := 2) scFormsMade.nd rfl (by first | exact Or.inl rfl | exact Or.inr rfl))) (fun _ _ _ _ _ => pts_nil) (fun _ _ _ _ _ => (pe_callH HFA (hr.mono (by decide)) rfl (pa_cons (pv 0) (pa_cons (pv 2) pa_nil))))) pa_nil)))), ?_⟩
    have cyl : cy.length = cells.length := Paired.length cm
    have few := fok.len
    refine ⟨_, rfl, fam, CF, df, _, _, rfl, hf, FT.cl, FT.nC, famF_cells _ _, pc, rfl, ⟨_, sqT cp⟩, fun D hD => ?_⟩
    refine lc_tup (K := K) (a := pc) (xs := cy) (fun i H4 => Same H H4 ∧ H4 D = some (.lst (((heardAll man ws es cells).take i).map formV))) ⟨Same.new hD, upd_same⟩ (fun i H4 _ ⟨e, _⟩ => sqT (e _ _ cp)) ?_ ?_
    · rintro i y H4 hi ⟨sm, e4⟩
      have lt := (List.getElem?_eq_some_iff.mp hi).1
      obtain ⟨c, hc, mc⟩ := Paired.get (cm.keep (TFr.same sm)) hi
      refine ⟨rfl, _, rfl, _, rfl, b, y, man, ws, es, c, rfl, bs.same sm, hm, mc, (fok.ok c (List.mem_of_getElem? hc)).le fok.hi, fun H5 s5 => ?_⟩
      refine ⟨_, s5 _ _ e4, by rw [List.length_map]; exact small1000 (Nat.le_trans (List.length_take_le _ _) (by omega)), fun b o h => by rw [upd_ne (ne_of_none h hD)]; exact s5 _ _ (sm b o h), ?_⟩
      rw [upd_same, List.take_add_one, heardAll_at hc, List.map_append]
      rfl
    · rintro H4 ⟨sm, e4⟩
      rw [List.take_of_length_le (by rw [heardAll_len]; omega)] at e4
      refine ⟨D, _, rfl, .inl ⟨SqL.of e4, fun l hl => ?_⟩⟩
      exact k l _ upd_same (sm.trans (Same.new hl))
abbrev sMade : Stmt := top 40
theorem scMade : FnScope ["book", "family"] ["book", "family"] (defScope sMade) := ⟨rfl, rfl, rfl, by decide +kernel, rfl, by decide +kernel, by decide +kernel⟩

theorem ok_made {f C CF CB : Addr} {fd : FuncData} (F : Fun K "made" "made" sMade f fd) (T : Txt mg) (HFM : Has P w K mg base "forms_made" ["book", "family"] 6 (spFormsMade CF CB)) (HLi : Has P w K mg base "limited" ["family", "forms"] 5 (spLimited CF C)) :
    FnOk P w K mg base CX0 7 f fd ["book", "family"] (spMade CF C CB) := by
  refine F.ok scMade (fun vs H Q E h => ?_) (fun cdv A outer s H vs Q E hr h => ?_)
  · obtain ⟨b, fam, man, ws, es, many, pc, cy, cells, rfl, _⟩ := h
    rfl
  · obtain ⟨b, fam, man, ws, es, many, pc, cy, cells, rfl, bs, hm, hf, cp, cm, fok, el, k⟩ := h
    refine ⟨_, (pss_one (ps_ret (pe_callH HLi (hr.mono (by decide)) rfl (pa_cons (pv 1) (pa_cons (pe_callH HFM (hr.mono (by decide)) rfl (pa_cons (pv 0) (pa_cons (pv 1) pa_nil))) pa_nil))))), ?_⟩
    have cyl : cy.length = cells.length := Paired.length cm
    have few := fok.len
    refine ⟨_, rfl, _, rfl, _, rfl, b, fam, man, ws, es, many, pc, cy, cells, rfl, bs, hm, hf, cp, cm, fok, fun l H5 e5 s5 => ?_⟩
    obtain ⟨df, hf⟩ := hf
    refine ⟨fam, l, many, pc, cy, _, rfl, ⟨df, s5 _ _ hf⟩, s5 _ _ cp, e5, forms_few (by rw [heardAll_len]; omega) (by omega) (words_ok bs.ok) (by rw [List.length_map]; exact el) fun z hz => heardAll_mem hz, fun t H6 ht s6 => ?_⟩
    exact k t l H6 ht (s6 _ _ e5) (s5.trans s6)
def spMakes (CF C CB : Addr) : Sp := fun vs H Q _ => ∃ (b t fam p : Addr) (man : Str) (ws : List Int) (es : List Ent) (many : Int) (pc : Addr) (cy : List V) (cells : List (List Int)) (fs : List (Option Str)), vs = [.ref b, .ref t] ∧ BookSt CB H b man ws es ∧ Man man ∧ TabAt C H t fam p ∧ H p = some (.tup (fs.map formV)) ∧
  FamAt CF H fam many pc ∧ H pc = some (.tup cy) ∧ Mks H cy cells ∧ FamOk many cells ∧ fs.length = cells.length ∧ ∀ H' : Hp, Same H H' → Q (.bl (agree fs (heardAll man ws es cells) cells.length)) H'
end
end Xci

namespace Xci
open PySem L2
section
variable {P : Program} {w : World} {K : PySem.W.Frag} {mg : Str → Option Value} {base : Heap}
def flatL : V → Bool
  | .int _ => true
  | .str _ => true
  | .bl _ => true
  | .non => true
  | _ => false
def spLikeA : Sp := fun vs H Q _ => ∃ x : V, vs = [x, x] ∧ flatL x = true ∧ ∀ H', Same H H' → Q (.bl true) H'
def spLikeB : Sp := fun vs H Q _ => ∃ (u v : V) (xs : List V), vs = [u, v] ∧ Tup H u xs ∧ Tup H v xs ∧ xs.all flatL = true ∧ xs.length ≤ 1000 ∧ ∀ H', Same H H' → Q (.bl true) H'
def spWeights : Sp := fun vs H Q _ => ∃ a ld : Addr, vs = [.ref a] ∧ Deck H a ld ∧ ∀ (v : V) (ws : List Int) (H' : Hp), Xci.Mk H' v ws → ws.length = 6 → (∀ x ∈ ws, 0 ≤ x ∧ x ≤ 1000000) → Deck H' a ld → Fr a H H' → Q v H'
abbrev sLawWeights : Stmt := top 57
theorem scLawWeights : FnScope ["deck", "most", "mark"] ["deck"] (defScope sLawWeights) := ⟨rfl, rfl, rfl, by decide +kernel, rfl, by decide +kernel, by decide +kernel⟩

theorem ok_weightsL {f : Addr} {fd : FuncData} (F : Fun K "_law_weights" "_law_weights" sLawWeights f fd) (T : Txt mg) (HT : Has P w K mg base "_law_take" ["deck", "many"] 1 spTake) : FnOk P w K mg base CX0 2 f fd ["deck"] spWeights := by
  refine F.ok scLawWeights (fun vs H Q E h => ?_) (fun cdv A outer s H vs Q E hr h => ?_)
  · obtain ⟨a, ld, rfl, _⟩ := h
    rfl
  · obtain ⟨a, ld, rfl, hd, k⟩ := h
    refine ⟨_, (C8.pss_cut (ps_set (i := 1) scLawWeights.nd rfl (by first | exact Or.inl rfl | exact Or.inr rfl) (pe_ix ix_tup (pe_tup (pa_cons pe_int (pa_cons pe_int (pa_cons pe_int pa_nil)))) (pe_callH HT (hr.mono (by decide)) rfl (pa_cons (pv 0) (pa_cons pe_int pa_nil))) (fun _ _ => rfl)))
      (pss_one (ps_ret (pe_callTy call_tuple_of rfl T.tuple (by decide +kernel) (pa_cons (pe_lc (own := [("mark", 2)]) rfl scLawWeights.nd (pi_range1 rfl T.range (pa_cons pe_int pa_nil)) (blkOk_by (N := ["deck", "most", "mark"]) (sc := defScope sLawWeights) (by decide +kernel)) (fun _ _ _ _ _ => (pg_name (i := 2) scLawWeights.nd rfl (by first | exact Or.inl rfl | exact Or.inr rfl))) (fun _ _ _ _ _ => pts_nil) (fun _ _ _ _ _ => (pe_callH HT (hr.mono (by decide)) rfl (pa_cons (pv 0) (pa_cons (pv 1) pa_nil))))) pa_nil))))), ?_⟩
    refine ⟨fun σ' H2 => ∃ most : Int, 0 < most ∧ most ≤ 1000001 ∧ σ' = [some (.ref a), some (.int most), none] ∧ Deck H2 a ld ∧ Fr a H H2, ?_, ?_⟩
    · refine ⟨(by show 3 ≤ sizeLine; decide), fun t ht => ?_⟩
      have et : (upd H t (.tup [.int 3, .int 10, .int 1000001])) t = some (.tup [.int 3, .int 10, .int 1000001]) := upd_same
      have s1 : Same H (upd H t (.tup [.int 3, .int 10, .int 1000001])) := Same.new ht
      generalize upd H t (.tup [.int 3, .int 10, .int 1000001]) = H1 at *
      have hd1 := hd.keep s1
      refine ⟨_, rfl, a, ld, _, rfl, hd1, by decide, by decide, fun d H2 d0 d1 hd2 f2 _ => ?_⟩
      have et2 := hd1.tfr f2 _ _ et
      have ch : ∃ (j : Nat) (n : Int), d = (j : Int) ∧ ([.int 3, .int 10, .int 1000001] : List V)[j]? = some (.int n) ∧ 0 < n ∧ n ≤ 1000001 := by
        have : d = 0 ∨ d = 1 ∨ d = 2 := by omega
        rcases this with e | e | e
        · exact ⟨0, 3, e, rfl, by decide, by decide⟩
        · exact ⟨1, 10, e, rfl, by decide, by decide⟩
        · exact ⟨2, 1000001, e, rfl, by decide, by decide⟩
      obtain ⟨j, n, ej, en, n0, n1⟩ := ch
      refine ⟨t, _, _, _, rfl, rfl, sqT et2, at_of ej en, ?_⟩
      exact ⟨n, n0, n1, rfl, hd2, (Fr.same s1).trans f2⟩
    rintro σ' H2 ⟨most, m0, m1, rfl, hd2, f2⟩
    refine ⟨_, rfl, by decide, by decide, fun D hD => ?_⟩
    have hD0 := hd2.free f2 hD
    have nD := hd.ne hD0
    have mD := hd.ne' hD0
    refine lc_range (n := 6) (fun i H4 => ∃ ws : List Int, Deck H4 a ld ∧ Fr a H H4 ∧ H4 D = some (.lst (ws.map V.int)) ∧ ws.length = i ∧ ∀ x ∈ ws, 0 ≤ x ∧ x ≤ 1000000) ⟨[], hd2.keep (Same.new hD), f2.trans (Fr.new hD), upd_same, rfl, by simp⟩ ?_ ?_
    · rintro i H4 hi ⟨ws, hd4, f4, e4, hl, hb⟩
      refine ⟨rfl, _, rfl, _, rfl, a, ld, _, rfl, hd4, m0, by omega, fun d H5 d0 d1 hd5 f5 _ => ?_⟩
      refine ⟨_, f5 _ _ e4 nD, by rw [List.length_map]; exact small1000 (by omega), ws ++ [d], hd5.put nD mD, fun b o h n => by rw [upd_ne (ne_of_none h hD0)]; exact f5 _ _ (f4 _ _ h n) n, by rw [upd_same, List.map_append]; rfl, by rw [List.length_append, hl]; rfl, fun x hx => ?_⟩
      rcases List.mem_append.mp hx with q | q
      · exact hb x q
      · rw [List.mem_singleton.mp q]; omega
    · rintro H4 ⟨ws, hd4, f4, e4, hl, hb⟩
      exact ⟨_, _, rfl, .inl ⟨SqL.of e4, fun l hl' => k _ ws _ ⟨l, rfl, upd_same⟩ hl hb (hd4.keep (Same.new hl')) (f4.trans (Fr.new hl'))⟩⟩
theorem ok_speaksRow {f : Addr} {fd : FuncData} (F : Fun K "_law_speaks" "_law_speaks" sLawSpeaks f fd) (T : Txt mg) (HF : Has P w K mg base "_law_fits" ["entries", "cell"] 2 (spFits K)) : FnOk P w K mg base CX0 3 f fd ["manner", "entries", "weights", "cell"] (spSpeaksRow K) := by
  refine F.ok scLawSpeaks (fun vs H Q E h => ?_) (fun cdv A outer s H vs Q E hr h => ?_)
  · obtain ⟨p, v, ys, es, ms, rfl, _⟩ := h
    rfl
  · obtain ⟨p, v, ys, es, ms, rfl, hp, ents, eok, el, mv, k⟩ := h
    refine ⟨_, (pss_cons (ps_set (i := 4) scLawSpeaks.nd rfl (by first | exact Or.inl rfl | exact Or.inr rfl) (pe_callH HF (hr.mono (by decide)) rfl (pa_cons (pv 1) (pa_cons (pv 3) pa_nil))))
      (pss_cons (ps_if (pt_cmpR op_eq (pe_callB call_len rfl T.len PySem.boot_len (pa_cons (pv 4) pa_nil)) pe_int (nomark _)) (pss_one (ps_ret (pe_tup (pa_cons pe_str pa_nil)))) pss_nil)
      (pss_cons (ps_if (pt_cmpR op_eq (pv 0) pe_str (nomark _)) (pss_one (ps_ret (pe_tup (pa_cons pe_str (pa_cons (pe_ix ix_list (pv 4) pe_int (fun _ _ => rfl)) pa_nil))))) pss_nil)
      pss_never))), ?_⟩
    refine ⟨_, rfl, _, rfl, p, v, ys, es, ms, rfl, hp, ents, eok, el, mv, fun q H1 hq s1 => ?_⟩
    refine ⟨_, rfl, _, _, rfl, .inl ⟨_, SqL.of hq, rfl⟩, rfl, _, rfl, ?_⟩
    cases hjs : fitN es ms with
    | nil =>
      rw [hjs] at hq k
      refine iteT ⟨(by show 1 ≤ sizeLine; decide), fun t ht => ?_⟩
      exact k _ _ ⟨t, rfl, upd_same⟩ (s1.trans (Same.new ht))
    | cons j r =>
      rw [hjs] at hq k
      refine ite2 (fun hf => ?_) (fun _ => ?_)
      · have hf' : V.int ((((nat2 (j :: r)).map V.int).length : Nat) : Int) = V.int 0 := of_decide_eq_true hf
        have := V.int.inj hf'
        simp [nat2] at this
        omega
      refine ⟨_, rfl, rfl, _, rfl, ?_⟩
      refine ite2 (fun _ => ?_) (fun hf => absurd (decide_eq_true rfl) hf)
      refine ⟨_, rfl, q, _, _, _, rfl, rfl, SqL.of hq, at_of (j := 0) rfl rfl, (by show 2 ≤ sizeLine; decide), fun t ht => ?_⟩
      exact k _ _ ⟨t, rfl, upd_same⟩ (s1.trans (Same.new ht))
/-- what is told of who speaks -/
def Told (H : Hp) (u : V) : Option Nat → Prop
  | some j => Tup H u [.str "entry", .int (j : Int)]
  | none => ∃ (x : Str) (r : List V), Tup H u (.str x :: r) ∧ x ≠ "entry"
def spLawWho (K : PySem.W.Frag) : Sp := fun vs H Q _ => ∃ (man : Str) (p : Addr) (wt v : V) (ys : List V) (ws : List Int) (es : List Ent) (ms : List Int), vs = [.str man, .ref p, wt, v] ∧ Man man ∧ WtIs H man wt ws ∧ H p = some (.tup ys) ∧ Ents H ys es ∧ (∀ e ∈ es, EntOk e) ∧ es.length ≤ 1000 ∧ Xci.Mk H v ms ∧
  ∀ (u : V) (H' : Hp), Told H' u (whoN man ws es ms) → Same H H' → Q u H'
theorem told_row {H : Hp} {u : V} {ws : List Int} {es : List Ent} {ms : List Int} (h : Tup H u (spk (fitN es ms))) : Told H u (whoN "row" ws es ms) := by
  unfold whoN
  rw [if_pos rfl]
  cases e : fitN es ms with
  | nil =>
    rw [e] at h
    exact ⟨"none", [], h, by decide +kernel⟩
  | cons j r =>
    rw [e] at h
    exact h
theorem told_res {H : Hp} {u : V} {man : Str} {ws : List Int} {es : List Ent} {ms : List Int} (n : man ≠ "row") (h : ResAt H u (lawRes (fitN es ms) (beatA man ws es))) : Told H u (whoN man ws es ms) := by
  unfold whoN
  rw [if_neg n]
  cases e : lawRes (fitN es ms) (beatA man ws es) with
  | none =>
    rw [e] at h
    exact ⟨"none", [], h, by decide +kernel⟩
  | ent j =>
    rw [e] at h
    exact h
  | qua l =>
    rw [e] at h
    obtain ⟨t, ht, _⟩ := h
    exact ⟨"quarrel", [.ref t], ht, by decide +kernel⟩
theorem ok_lawWho {f : Addr} {fd : FuncData} (g : FnOk P w K mg base CX0 4 f fd ["manner", "entries", "weights", "cell"] (spSpeaks K)) (g' : FnOk P w K mg base CX0 3 f fd ["manner", "entries", "weights", "cell"] (spSpeaksRow K)) : FnOk P w K mg base CX0 4 f fd ["manner", "entries", "weights", "cell"] (spLawWho K) :=
  ok_imp (ok_both g (g'.mono (by decide))) fun vs H Q E ⟨man, p, wt, v, ys, ws, es, ms, e, hm, hw, hp, ents, eok, el, mv, k⟩ => by
    subst e
    rcases n_row3 hm with rfl | ⟨hn, h3⟩
    · rcases hw with ⟨_, rfl⟩ | ⟨h, _⟩
      · exact .inr ⟨p, v, ys, es, ms, rfl, hp, ents, eok, el, mv, fun u H' hu s => k u H' (told_row hu) s⟩
      · exact absurd h n_roww
    · exact .inl ⟨man, p, wt, v, ys, ws, es, ms, rfl, h3, hw, hp, ents, eok, el, mv, fun u H' hu s => k u H' (told_res hn hu) s⟩
def spLawHeard (K : PySem.W.Frag) : Sp := fun vs H Q _ => ∃ (man : Str) (p : Addr) (wt v : V) (ys : List V) (ws : List Int) (es : List Ent) (ms : List Int), vs = [.str man, .ref p, wt, v] ∧ Man man ∧ WtIs H man wt ws ∧ H p = some (.tup ys) ∧ Ents H ys es ∧ (∀ e ∈ es, EntOk e) ∧ es.length ≤ 1000 ∧ Xci.Mk H v ms ∧
  ∀ (H' : Hp), Same H H' → Q (formV (heard man ws es ms)) H'
abbrev sLawFormAt : Stmt := top 62
theorem scLawFormAt : FnScope ["manner", "entries", "weights", "cell", "told"] ["manner", "entries", "weights", "cell"] (defScope sLawFormAt) := ⟨rfl, rfl, rfl, by decide +kernel, rfl, by decide +kernel, by decide +kernel⟩

theorem ok_lawFormAt {f : Addr} {fd : FuncData} (F : Fun K "_law_form_at" "_law_form_at" sLawFormAt f fd) (HLS : Has P w K mg base "_law_speaks" ["manner", "entries", "weights", "cell"] 4 (spLawWho K)) : FnOk P w K mg base CX0 5 f fd ["manner", "entries", "weights", "cell"] (spLawHeard K) := by
  refine F.ok scLawFormAt (fun vs H Q E h => ?_) (fun cdv A outer s H vs Q E hr h => ?_)
  · obtain ⟨man, p, wt, v, ys, ws, es, ms, rfl, _⟩ := h
    rfl
  · obtain ⟨man, p, wt, v, ys, ws, es, ms, rfl, hm, hw, hp, ents, eok, el, mv, k⟩ := h
    refine ⟨_, (pss_cons (ps_set (i := 4) scLawFormAt.nd rfl (by first | exact Or.inl rfl | exact Or.inr rfl) (pe_callH HLS (hr.mono (by decide)) rfl (pa_cons (pv 0) (pa_cons (pv 1) (pa_cons (pv 2) (pa_cons (pv 3) pa_nil))))))
      (pss_cons (ps_if (pt_cmpR op_eq (pe_ix ix_tup (pv 4) pe_int (fun _ _ => rfl)) pe_str (nomark _)) (pss_one (ps_ret (pe_ix ix_tup (pe_ix ix_tup (pv 1) (pe_ix ix_tup (pv 4) pe_int (fun _ _ => rfl)) (fun _ _ => rfl)) pe_int (fun _ _ => rfl)))) pss_nil)
      (pss_one (ps_ret pe_non)))), ?_⟩
    refine ⟨_, rfl, _, rfl, _, rfl, _, rfl, man, p, wt, v, ys, ws, es, ms, rfl, hm, hw, hp, ents, eok, el, mv, fun u H1 hu s1 => ?_⟩
    have k1 := k H1 s1
    cases hh : whoN man ws es ms with
    | none =>
      rw [hh] at hu
      rw [heard_non hh] at k1
      obtain ⟨x, r, ⟨a, rfl, ha⟩, nx⟩ := hu
      refine ⟨_, rfl, a, _, _, _, rfl, rfl, sqT ha, at_of (j := 0) rfl rfl, rfl, _, rfl, ?_⟩
      refine ite2 (fun hf => absurd (V.str.inj (of_decide_eq_true hf)) nx) (fun _ => ?_)
      exact k1
    | some j =>
      rw [hh] at hu
      obtain ⟨a, rfl, ha⟩ := hu
      obtain ⟨r, u, e, hy, hr0, mu, he⟩ := ent_at (Ents.keep (TFr.same s1) ents) (who_lt hh)
      rw [heard_at hh he] at k1
      refine ⟨_, rfl, a, _, _, _, rfl, rfl, sqT ha, at_of (j := 0) rfl rfl, rfl, _, rfl, ?_⟩
      refine ite2 (fun _ => ?_) (fun hf => absurd (decide_eq_true rfl) hf)
      exact ⟨_, rfl, _, rfl, a, _, _, _, rfl, rfl, sqT ha, at_of (j := 1) rfl rfl, p, _, _, _, rfl, rfl, sqT (s1 _ _ hp), at_of (j := j) rfl hy, r, _, _, _, rfl, rfl, sqT hr0, at_of (j := 1) rfl rfl, k1⟩
end
end Xci

namespace Xci
open PySem L2
def markB (n : Int) : PyData → Bool
  | .int x => decide (0 ≤ x ∧ x < n)
  | _ => false
theorem markB_all {n : Int} : ∀ {ds : List PyData}, ds.all (markB n) = true → ∃ ms : List Int, ds = ms.map .int ∧ ∀ m ∈ ms, 0 ≤ m ∧ m < n
  | [], _ => ⟨[], rfl, fun _ h => nomatch h⟩
  | .int x :: r, h => by
    simp only [List.all_cons, Bool.and_eq_true] at h
    obtain ⟨ms, rfl, ok⟩ := markB_all h.2
    have h1 : 0 ≤ x ∧ x < n := of_decide_eq_true h.1
    exact ⟨x :: ms, rfl, fun m hm => (List.mem_cons.mp hm).elim (fun e => e ▸ h1) (ok m)⟩
  | .none :: _, h => by simp [markB] at h
  | .bool _ :: _, h => by simp [markB] at h
  | .str _ :: _, h => by simp [markB] at h
  | .list _ :: _, h => by simp [markB] at h
  | .tuple _ :: _, h => by simp [markB] at h
  | .dict _ :: _, h => by simp [markB] at h
theorem rising_of : ∀ {ms : List Int}, (∀ i (h : i + 1 < ms.length), ms[i] < ms[i + 1]) → ms.Pairwise (· < ·)
  | [], _ => .nil
  | [m], _ => by simp
  | m :: k :: r, h => by
    have rest : (k :: r).Pairwise (· < ·) := rising_of fun i hi => h (i + 1) (Nat.succ_lt_succ hi)
    have h0 : m < k := h 0 (by simp)
    refine List.pairwise_cons.mpr ⟨fun z hz => ?_, rest⟩
    rcases List.mem_cons.mp hz with rfl | hz
    · exact h0
    · have := (List.pairwise_cons.mp rest).1 z hz
      omega
theorem cellD_not_all {n : Int} {ds : List PyData} (h : ds.all (markB n) = false) : cellD n (.tuple ds) = false := by
  cases e : cellD n (.tuple ds) with
  | false => rfl
  | true =>
    obtain ⟨ms, e1, ok, _⟩ := cellD_spec e
    cases e1
    have : (ms.map PyData.int).all (markB n) = true := by
      rw [List.all_eq_true]
      intro d hd
      obtain ⟨m, hm, rfl⟩ := List.mem_map.mp hd
      exact decide_eq_true ⟨ok.lo m hm, ok.hi m hm⟩
    rw [this] at h
    cases h
def adjB (ms : List Int) : List Bool := (List.range (ms.length - 1)).map fun i => decide (ms.getD i 0 < ms.getD (i + 1) 0)
theorem cellD_adj {n : Int} {ms : List Int} (h : ∀ m ∈ ms, 0 ≤ m ∧ m < n) : cellD n (.tuple (ms.map .int)) = (adjB ms).all id := by
  have up : ms.Pairwise (· < ·) ↔ (adjB ms).all id = true := by
    constructor
    · intro p
      rw [List.all_eq_true]
      intro b hb
      obtain ⟨i, hi, rfl⟩ := List.mem_map.mp hb
      have hi := List.mem_range.mp hi
      have := List.pairwise_iff_getElem.mp p i (i + 1) (by omega) (by omega) (Nat.lt_succ_self i)
      rw [List.getD_eq_getElem?_getD, List.getD_eq_getElem?_getD, List.getElem?_eq_getElem (by omega), List.getElem?_eq_getElem (by omega)]
      exact decide_eq_true this
    · intro a
      refine rising_of fun i hi => ?_
      have := List.all_eq_true.mp a _ (List.mem_map.mpr ⟨i, List.mem_range.mpr (by omega), rfl⟩)
      have := of_decide_eq_true (show decide _ = true from this)
      rw [List.getD_eq_getElem?_getD, List.getD_eq_getElem?_getD, List.getElem?_eq_getElem (by omega), List.getElem?_eq_getElem (by omega)] at this
      exact this
  cases e : (adjB ms).all id with
  | true => exact cellFrom_of (up.mpr e) (fun m hm => (h m hm).1) fun m hm => (h m hm).2
  | false =>
    cases e2 : cellD n (.tuple (ms.map .int)) with
    | false => rfl
    | true =>
      obtain ⟨ks, e3, ok, _⟩ := cellD_spec e2
      have e4 : ms.map PyData.int = ks.map PyData.int := by injection e3
      have e5 : ms = ks := List.map_inj_right (fun a b z => by injection z) |>.mp e4
      subst e5
      rw [up.mp ok.up] at e
      cases e
def spMarksD : Sp := fun vs H Q _ => ∃ (a : Out) (n : Int) (v : V) (d : PyData), vs = [v, .int n] ∧ Dt a H v d ∧ (∀ ds, d = .tuple ds → ds.length ≤ 900) ∧ ∀ H', Same H H' → Q (.bl (cellD n d)) H'
section
variable {P : Program} {w : World} {K : PySem.W.Frag} {mg : Str → Option Value} {base : Heap}
abbrev sLawIsInt : Stmt := top 63
theorem scLawIsInt : FnScope ["thing"] ["thing"] (defScope sLawIsInt) := ⟨rfl, rfl, rfl, by decide +kernel, rfl, by decide +kernel, by decide +kernel⟩
theorem okd_lawIsInt {f : Addr} {fd : FuncData} (F : Fun K "_law_is_int" "_law_is_int" sLawIsInt f fd) (T : Txt mg) : FnOk P w K mg base CX0 1 f fd ["thing"] spIntD := by
  refine F.ok scLawIsInt (fun vs H Q E h => ?_) (fun cdv A outer s H vs Q E hr h => ?_)
  · obtain ⟨a, v, d, rfl, _⟩ := h
    rfl
  · obtain ⟨a, v, d, rfl, hd, k⟩ := h
    refine ⟨_, (pss_one (ps_ret (pe_and (pe_callB call_isi rfl T.isinstance (by decide +kernel) (pa_cons (pv 0) (pa_cons (pe_bltn rfl T.int (by decide +kernel) (v := V.ty "int") rfl) pa_nil))) (pe_one (pe_not (pe_callB call_isi rfl T.isinstance (by decide +kernel) (pa_cons (pv 0) (pa_cons (pe_bltn rfl T.bool (by decide +kernel) (v := V.ty "bool") rfl) pa_nil)))))))), ?_⟩
    rw [← intD_isa] at k
    refine ⟨_, rfl, _, _, _, _, _, rfl, .ty _, dt_ty hd, kit_D d (.inl rfl), _, rfl, ?_⟩
    cases h1 : isaD "int" d with
    | false =>
      rw [h1] at k
      exact k
    | true =>
      rw [h1] at k
      exact ⟨_, rfl, _, _, _, _, _, rfl, .ty _, dt_ty hd, kit_D d (.inr (.inl rfl)), _, rfl, k⟩
abbrev sLawAreMarks : Stmt := top 64
theorem scLawAreMarks : FnScope ["thing", "many", "mark", "at"] ["thing", "many"] (defScope sLawAreMarks) := ⟨rfl, rfl, rfl, by decide +kernel, rfl, by decide +kernel, by decide +kernel⟩
theorem okd_lawAreMarks {f : Addr} {fd : FuncData} (F : Fun K "_law_are_marks" "_law_are_marks" sLawAreMarks f fd) (T : Txt mg) (HI : Has P w K mg base "_law_is_int" ["thing"] 1 spIntD) : FnOk P w K mg base CX0 2 f fd ["thing", "many"] spMarksD := by
  refine F.ok scLawAreMarks (fun vs H Q E h => ?_) (fun cdv A outer s H vs Q E hr h => ?_)
  · obtain ⟨a, n, v, d, rfl, _⟩ := h
    rfl
  · obtain ⟨a, n, v, d, rfl, hd, few, k⟩ := h
    refine ⟨_, (pss_cons (ps_if (PW.pt (pw_or (pt_not (pt_val (pe_callB call_isi rfl T.isinstance (by decide +kernel) (pa_cons (pv 0) (pa_cons (pe_bltn rfl T.tuple (by decide +kernel) (v := V.ty "tuple") rfl) pa_nil))))) (pw_or1 (pt_not (pt_val (pe_callB (cr_all rfl) rfl T.all (by decide +kernel) (pa_cons (pe_lc (own := [("mark", 2)]) rfl scLawAreMarks.nd (pi_tup (pv 0)) (blkOk_by (N := ["thing", "many", "mark", "at"]) (sc := defScope sLawAreMarks) (by decide +kernel)) (fun _ _ _ _ _ => (pg_name (i := 2) scLawAreMarks.nd rfl (by first | exact Or.inl rfl | exact Or.inr rfl))) (fun _ _ _ _ _ => pts_nil) (fun _ _ _ _ _ => (pe_and (pe_callH HI (hr.mono (by decide)) rfl (pa_cons (pv 2) pa_nil)) (pe_one (pe_chain op_le op_lt pe_int (pv 2) (pv 1)))))) pa_nil))))))) (pss_one (ps_ret pe_bl)) pss_nil)
      (pss_one (ps_ret (pe_callB (cr_all rfl) rfl T.all (by decide +kernel) (pa_cons (pe_lc (own := [("at", 3)]) rfl scLawAreMarks.nd (pi_range2 rfl T.range (pa_cons pe_int (pa_cons (pe_callB call_len rfl T.len PySem.boot_len (pa_cons (pv 0) pa_nil)) pa_nil))) (blkOk_by (N := ["thing", "many", "mark", "at"]) (sc := defScope sLawAreMarks) (by decide +kernel)) (fun _ _ _ _ _ => (pg_name (i := 3) scLawAreMarks.nd rfl (by first | exact Or.inl rfl | exact Or.inr rfl))) (fun _ _ _ _ _ => pts_nil) (fun _ _ _ _ _ => (pe_cmpR op_lt (pe_ix (show IxR _ (rIxT K) from ix_tup) (pv 0) (pe_op op_sub (pv 3) pe_int) (fun _ _ => rfl)) (pe_ix (show IxR _ (rIxT K) from ix_tup) (pv 0) (pv 3) (fun _ _ => rfl)) (nomark _)))) pa_nil))))), ?_⟩
    refine ⟨_, rfl, _, _, _, _, _, rfl, .ty _, dt_ty hd, kit_D d (.inr (.inr (.inr (.inr (.inl rfl))))), _, rfl, ?_⟩
    cases h1 : isaD "tuple" d with
    | false =>
      rw [(isa_tup_not (by rw [h1]; decide)).1] at k
      exact iteT (k H (Same.refl H))
    | true =>
      obtain ⟨ds, rfl⟩ := (isa_tup d).mp h1
      obtain ⟨p, xs, rfl, _, hp, r⟩ := dt_tup hd
      have len := r.len
      have few := few ds rfl
      refine iteF ?_
      refine ⟨_, rfl, p, rfl, ⟨_, sqT hp⟩, fun D hD => ?_⟩
      refine lc_tup (K := K) (a := p) (xs := xs) (fun i H4 => Same H H4 ∧ H4 D = some (.lst (((ds.take i).map (markB n)).map V.bl))) ⟨Same.new hD, upd_same⟩ (fun i H4 _ ⟨e, _⟩ => sqT (e _ _ hp)) ?_ ?_
      · rintro i y H4 hi ⟨sm, e4⟩
        obtain ⟨d', at_, hy⟩ := r.get hi
        have hy4 := hy.fr (fun b o e _ => sm b o e)
        have add : ∀ b, markB n d' = b → ∃ acc, H4 D = some (.lst acc) ∧ acc.length < sizeLine ∧ (Same H (upd H4 D (.lst (acc ++ [V.bl b]))) ∧ (upd H4 D (.lst (acc ++ [V.bl b]))) D = some (.lst (((ds.take (i + 1)).map (markB n)).map V.bl))) := fun b hb => by
          refine ⟨_, e4, by rw [List.length_map, List.length_map, List.length_take]; exact small1000 (by omega), fun b' o h => by rw [upd_ne (ne_of_none h hD)]; exact sm _ _ h, ?_⟩
          rw [upd_same, List.take_add_one, at_, List.map_append, List.map_append, ← hb]
          rfl
        refine ⟨rfl, _, rfl, a, y, d', rfl, hy4, _, rfl, ?_⟩
        cases hy4 with
        | int x =>
          refine iteT ?_
          refine ⟨_, rfl, _, _, rfl, rfl, _, rfl, ?_⟩
          refine ite2 (fun g1 => ?_) (fun g1 => ?_)
          · refine ⟨_, rfl, _, _, rfl, rfl, ?_⟩
            refine add _ ?_
            have g1' : (0 : Int) ≤ x := of_decide_eq_true g1
            simp [markB, g1']
          · refine add _ ?_
            have g1' : ¬ (0 : Int) ≤ x := fun q => g1 (decide_eq_true q)
            simp [markB, g1']
        | _ => exact iteF (add _ rfl)
      · rintro H4 ⟨sm, e4⟩
        rw [List.take_of_length_le (by omega)] at e4
        refine ⟨D, _, rfl, SqL.of e4, ?_⟩
        refine ⟨_, rfl, ?_⟩
        have e5 : ((ds.map (markB n)).all id) = ds.all (markB n) := by rw [List.all_map]; rfl
        rw [e5]
        cases h2 : ds.all (markB n) with
        | false =>
          rw [cellD_not_all h2] at k
          exact iteT (k H4 sm)
        | true =>
          refine iteF ?_
          obtain ⟨ms, rfl, ok⟩ := markB_all h2
          rw [dt_ints r] at hp
          rw [cellD_adj ok] at k
          have lm : ms.length ≤ 900 := by rw [List.length_map] at few; exact few
          have hp4 := sm _ _ hp
          refine ⟨_, rfl, _, (ms.map V.int).length, rfl, .inr ⟨_, sqT hp4, rfl⟩, 1, ((ms.map V.int).length : Int), rfl, ⟨by omega, by omega, by omega, by rw [List.length_map]; omega⟩, fun D2 hD2 => ?_⟩
          rw [List.length_map]
          refine lc_range (lo := 1) (n := ((ms.length : Int) - 1).toNat) (fun i H5 => Same H4 H5 ∧ H5 D2 = some (.lst (((adjB ms).take i).map V.bl))) ⟨Same.new hD2, upd_same⟩ ?_ ?_
          · rintro i H5 hi ⟨s5, e6⟩
            have hi' : i + 1 < ms.length := by omega
            have hp5 := s5 _ _ hp4
            have g0 : (ms.map V.int)[i]? = some (V.int ms[i]) := by rw [List.getElem?_map, List.getElem?_eq_getElem (by omega)]; rfl
            have g1 : (ms.map V.int)[i + 1]? = some (V.int ms[i + 1]) := by rw [List.getElem?_map, List.getElem?_eq_getElem hi']; rfl
            refine ⟨rfl, _, rfl, _, rfl, _, _, rfl, rfl, p, _, _, _, rfl, rfl, sqT hp5, at_of (j := i) (by omega) g0, _, rfl, _, rfl, p, _, _, _, rfl, rfl, sqT hp5, at_of (j := i + 1) (by omega) g1, ?_⟩
            refine ⟨_, _, rfl, rfl, ?_⟩
            refine ⟨_, e6, by rw [List.length_map, List.length_take]; exact small1000 (by omega), fun b o h => by rw [upd_ne (ne_of_none h hD2)]; exact s5 _ _ h, ?_⟩
            have at_ : (adjB ms)[i]? = some (decide (ms[i] < ms[i + 1])) := by
              unfold adjB
              rw [List.getElem?_map, List.getElem?_range (by omega)]
              show some (decide (ms.getD i 0 < ms.getD (i + 1) 0)) = _
              rw [List.getD_eq_getElem?_getD, List.getD_eq_getElem?_getD, List.getElem?_eq_getElem (by omega), List.getElem?_eq_getElem hi']
              rfl
            rw [upd_same, List.take_add_one, at_, List.map_append]
            rfl
          · rintro H5 ⟨s5, e6⟩
            rw [List.take_of_length_le (by unfold adjB; rw [List.length_map, List.length_range]; omega)] at e6
            exact ⟨D2, _, rfl, SqL.of e6, k H5 (sm.trans s5)⟩
end
end Xci

namespace Xci
open PySem L2
/-- new data: none of its objects stood ahead, but for what may be kept out -/
def Fresh (a : Addr) (H H' : Hp) (v : V) (d : PyData) : Prop := ∀ N : Out, N a → Used N H → Dt N H' v d
theorem Fresh.fr {a : Addr} {H H1 H2 : Hp} {v : V} {d : PyData} (f : Fresh a H H1 v d) (g : Fr a H1 H2) : Fresh a H H2 v d := fun N na u => (f N na u).fr (fun b o e n => g b o e (fun z => n (z ▸ na)))
theorem Fresh.flat {a : Addr} {H H' : Hp} {v : V} {d : PyData} (h : ∀ N H, Dt N H v d) : Fresh a H H' v d := fun N _ _ => h N H'
theorem Used.fr {N : Out} {a l : Addr} {H H' : Hp} (u : Used N H) (f : Fr a H H') (d : Deck H' a l) : Used N H' := fun p n z => by
  by_cases e : p = a
  · obtain ⟨ys, y⟩ := d.is
    rw [← e, z] at y
    cases y
  · cases y : H p with
    | none => exact u p n y
    | some o =>
      rw [f _ _ y e] at z
      cases z
theorem none_of {H H' : Hp} {p : Addr} (h : H' p = none) (s : Same H H') : H p = none := by
  cases e : H p with
  | none => rfl
  | some o => rw [s _ _ e] at h; cases h
def spDeep : Sp := fun vs H Q _ => ∃ a l : Addr, vs = [.ref a] ∧ Deck H a l ∧ ∀ (v : V) (d : PyData) (H' : Hp), Fresh a H H' v d → Fine 108 37 d → Deck H' a l → Fr a H H' → Q v H'
def spOdd : Sp := fun vs H Q _ => ∃ a l : Addr, vs = [.ref a] ∧ Deck H a l ∧ ∀ (v : V) (d : PyData) (H' : Hp), Fresh a H H' v d → Fine 120 40 d → Deck H' a l → Fr a H H' → Q v H'
theorem fine_empty {n k : Nat} : Fine n (k + 1) (.tuple []) := FineAll.nil.tup
theorem az_ok : ∀ c ∈ (("a" : Str)).cps.toList, c < 16 ^ 8 := by decide +kernel
theorem dt_lst {a : Out} {H : Hp} {v : V} {ds : List PyData} (h : Dt a H v (.list ds)) : ∃ p xs, v = .ref p ∧ ¬ a p ∧ H p = some (.lst xs) ∧ DtAll a H xs ds := by
  cases h with
  | lst n h r => exact ⟨_, _, rfl, n, h, r⟩
section
variable {P : Program} {w : World} {K : PySem.W.Frag} {mg : Str → Option Value} {base : Heap}
abbrev sLawDeep : Stmt := top 65
theorem scLawDeep : FnScope ["deck", "found", "turn"] ["deck"] (defScope sLawDeep) := ⟨rfl, rfl, rfl, by decide +kernel, rfl, by decide +kernel, by decide +kernel⟩
theorem ok_deep {f : Addr} {fd : FuncData} (F : Fun K "_law_deep" "_law_deep" sLawDeep f fd) (T : Txt mg) (HT : Has P w K mg base "_law_take" ["deck", "many"] 1 spTake) : FnOk P w K mg base CX0 2 f fd ["deck"] spDeep := by
  refine F.ok scLawDeep (fun vs H Q E h => ?_) (fun cdv A outer s H vs Q E hr h => ?_)
  · obtain ⟨a, l, rfl, _⟩ := h
    rfl
  · obtain ⟨a, l, rfl, hdk, k⟩ := h
    refine ⟨_, (pss_cons (ps_set (i := 1) scLawDeep.nd rfl (by first | exact Or.inl rfl | exact Or.inr rfl) (pe_tup pa_nil))
      (pss_cons (ps_for PassesOwn.never rfl (pi_range1 rfl T.range (pa_cons pe_int pa_nil)) (pg_name (i := 2) scLawDeep.nd rfl (by first | exact Or.inl rfl | exact Or.inr rfl)) (pss_one (ps_set (i := 1) scLawDeep.nd rfl (by first | exact Or.inl rfl | exact Or.inr rfl) (pe_ix ix_list (pe_lst (pa_cons (pe_tup (pa_cons (pv 1) pa_nil)) (pa_cons (pe_lst (pa_cons (pv 1) pa_nil)) (pa_cons (pe_disp (pps_cons pe_str (pv 1) pps_nil) (by rfl) (by rfl) (fun z => by cases z) (by decide)) pa_nil)))) (pe_callH HT (hr.mono (by decide)) rfl (pa_cons (pv 0) (pa_cons pe_int pa_nil))) (fun _ _ => rfl)))))
      (pss_one (ps_ret (pv 1))))), ?_⟩
    refine ⟨(by show 0 ≤ sizeLine; decide), fun t0 ht0 => ?_⟩
    have a0 : H a ≠ none := fun z => by
      obtain ⟨ys, e⟩ := hdk.is
      rw [z] at e
      cases e
    refine ⟨36, rfl, by decide, by decide, for_range (n := 36) (fun i σ H2 => (∃ (v : V) (o : Option V), σ = [some (.ref a), some v, o] ∧ ∃ d, Fresh a H H2 v d ∧ Fine (3 * i) (i + 1) d) ∧ Deck H2 a l ∧ Fr a H H2) ⟨⟨.ref t0, none, rfl, .tuple [], fun N na u => .tup (u.new ht0) upd_same .nil, fine_empty⟩, hdk.keep (Same.new ht0), Fr.new ht0⟩ ?_ ?_⟩
    · rintro i σ H2 hi ⟨⟨v, o, rfl, d, fv, fi⟩, dk, fr⟩
      refine ⟨_, rfl, (by show 1 ≤ sizeLine; decide), fun t ht => ?_⟩
      refine ⟨_, rfl, (by show 1 ≤ sizeLine; decide), fun q hq => ?_⟩
      intro p hp
      refine ⟨_, rfl, upd_same, [(.inr "a", v)], rfl, (by show 1 ≤ 15; decide), ?_⟩
      have ev : ∀ kv : List (Key × V), mergeK [] [(Sum.inr ("a" : Str), v)] = kv → kv = [(Sum.inr ("a" : Str), v)] := fun kv e => e.symm
      generalize hkv : mergeK [] [(Sum.inr ("a" : Str), v)] = kv
      have hkv := ev kv hkv
      subst hkv
      clear ev
      refine ⟨(by show 3 ≤ sizeLine; decide), fun m hm => ?_⟩
      have sA : Same H2 (upd H2 t (.tup [v])) := Same.new ht
      have sB : Same (upd H2 t (.tup [v])) (upd (upd H2 t (.tup [v])) q (.lst [v])) := Same.new hq
      have eT : (upd H2 t (.tup [v])) t = some (.tup [v]) := upd_same
      have eQ : (upd (upd H2 t (.tup [v])) q (.lst [v])) q = some (.lst [v]) := upd_same
      have hT : H2 t = none := ht
      have hQ : H2 q = none := (none_of hq sA)
      generalize hHA : upd (upd H2 t (.tup [v])) q (.lst [v]) = HA at *
      have eT' := sB _ _ eT
      have sC : Same HA (upd (upd HA p (.dK [])) p (.dK [(Sum.inr ("a" : Str), v)])) := fun b o e => by rw [upd_ne (ne_of_none e hp), upd_ne (ne_of_none e hp)]; exact e
      have eP : (upd (upd HA p (.dK [])) p (.dK [(Sum.inr ("a" : Str), v)])) p = some (.dK [(Sum.inr ("a" : Str), v)]) := upd_same
      have hP : H2 p = none := none_of hp (sA.trans sB)
      generalize upd (upd HA p (.dK [])) p (.dK [(Sum.inr ("a" : Str), v)]) = HB at *
      have sD : Same HB (upd HB m (.lst [.ref t, .ref q, .ref p])) := Same.new hm
      have eM : (upd HB m (.lst [.ref t, .ref q, .ref p])) m = some (.lst [.ref t, .ref q, .ref p]) := upd_same
      generalize upd HB m (.lst [.ref t, .ref q, .ref p]) = HC at *
      have all : Same H2 HC := (sA.trans sB).trans (sC.trans sD)
      have dC := dk.keep all
      refine ⟨_, rfl, a, l, 3, rfl, dC, by decide, by decide, fun j H3 j0 j3 dk3 f3 o3 => ?_⟩
      have fr3 : Fr a H H3 := fr.trans ((Fr.same all).trans f3)
      have nm : m ≠ a := fun z => by
        obtain ⟨ys, e⟩ := (dk.keep (sA.trans (sB.trans sC))).is
        rw [← z, hm] at e
        cases e
      have out : ∀ (u : V) (d' : PyData), (∀ N : Out, N a → Used N H → Dt N HC v d → Used N H2 → Dt N HC u d') → Fine (3 * (i + 1)) (i + 1 + 1) d' → ∃ (v : V) (o : Option V), [some (.ref a), some u, some (.int ((0 : Int) + (i : Int)))] = [some (.ref a), some v, o] ∧ ∃ d, Fresh a H H3 v d ∧ Fine (3 * (i + 1)) (i + 1 + 1) d := fun u d' hu fd => by
        refine ⟨u, _, rfl, d', fun N na us => ?_, fd⟩
        have u2 : Used N H2 := us.fr fr dk
        exact (hu N na us ((fv N na us).fr (FrO.same all)) u2).fr fun b o e n => f3 b o e fun z => n (z ▸ na)
      have few : j = 0 ∨ j = 1 ∨ j = 2 := by omega
      rcases few with rfl | rfl | rfl
      · exact ⟨m, _, _, _, rfl, rfl, SqL.of (f3 _ _ eM nm), at_of (j := 0) rfl rfl, out _ (.tuple [d]) (fun N na us dv u2 => .tup (u2.new hT) (sD _ _ (sC _ _ eT')) (.cons dv .nil)) ((fi.mono (Nat.le_refl _) (Nat.le_refl _) |> fun z => (FineAll.cons (m := 0) z .nil).tup).mono (by omega) (by omega)), dk3, fr3⟩
      · exact ⟨m, _, _, _, rfl, rfl, SqL.of (f3 _ _ eM nm), at_of (j := 1) rfl rfl, out _ (.list [d]) (fun N na us dv u2 => .lst (u2.new hQ) (sD _ _ (sC _ _ eQ)) (.cons dv .nil)) ((fi.mono (Nat.le_refl _) (Nat.le_refl _) |> fun z => (FineAll.cons (m := 0) z .nil).lst).mono (by omega) (by omega)), dk3, fr3⟩
      · exact ⟨m, _, _, _, rfl, rfl, SqL.of (f3 _ _ eM nm), at_of (j := 2) rfl rfl, out _ (.dict [(.str "a", d)]) (fun N na us dv u2 => .dic (kvs := [(Sum.inr ("a" : Str), v)]) (ds := [d]) (u2.new hP) (sD _ _ eP) (.cons dv .nil)) ((fine_one fi az_ok).mono (by show 1 + 3 * i + 2 ≤ _; omega) (by omega)), dk3, fr3⟩
    · rintro σ H2 ⟨⟨v, o, rfl, d, fv, fi⟩, dk, fr⟩
      exact ⟨_, rfl, k v d H2 fv fi dk fr⟩
abbrev sLawOdd : Stmt := top 66
theorem scLawOdd : FnScope ["deck", "things"] ["deck"] (defScope sLawOdd) := ⟨rfl, rfl, rfl, by decide +kernel, rfl, by decide +kernel, by decide +kernel⟩
def odd1 : List PyData := [.none, .bool true, .bool false, .int 0, .int 1, .int (-1), .int 7, .int (10 ^ 20), .str "", .str "a", .str "row", .str "A", .str "a b", .tuple [], .list [], .dict [], .tuple [.int 0], .list [.int 0], .tuple [.int 1, .int 0]]
def odd2 : List PyData := [.tuple [.int 0, .int 0], .tuple [.tuple [.str "never", .tuple []]], .list [.tuple [.str "some", .tuple [.int 0]]]]
def odd3 : List PyData := [.tuple [.tuple []], .tuple [.str "a"], .tuple [.bool true], .tuple [.none], .tuple [.str "0"], .tuple [.int 0, .str "a"], .tuple [.tuple [.int 0], .str "a"], .str "abcdefghi", .tuple [.int (-1)], .tuple [.int 6], .list [.list [.int 0]]]
def fineB (d : PyData) : Bool := d.showable && (d.leavesShort 40 && (decide (d.bulk ≤ 120) && decide (d.depth ≤ 40)))
theorem fineB_ok {d : PyData} (h : fineB d = true) : Fine 120 40 d := by
  simp only [fineB, Bool.and_eq_true, decide_eq_true_eq] at h
  exact ⟨h.1, h.2.1, h.2.2.1, h.2.2.2⟩
theorem odd_fine : ∀ d ∈ odd1 ++ odd2 ++ odd3, Fine 120 40 d := fun d h => fineB_ok (List.all_eq_true.mp (show (odd1 ++ odd2 ++ odd3).all fineB = true by decide +kernel) d h)
theorem ok_odd {f : Addr} {fd : FuncData} (F : Fun K "_law_odd" "_law_odd" sLawOdd f fd) (T : Txt mg) (HT : Has P w K mg base "_law_take" ["deck", "many"] 1 spTake) (HD : Has P w K mg base "_law_deep" ["deck"] 2 spDeep) : FnOk P w K mg base CX0 3 f fd ["deck"] spOdd := by
  refine F.ok scLawOdd (fun vs H Q E h => ?_) (fun cdv A outer s H vs Q E hr h => ?_)
  · obtain ⟨a, l, rfl, _⟩ := h
    rfl
  · obtain ⟨a, l, rfl, hdk, k⟩ := h
    obtain ⟨N, hN⟩ : ∃ N : Out, N = fun p => H p ≠ none := ⟨_, rfl⟩
    have us : Used N H := fun p n => by rw [hN] at n; exact n
    have na : N a := by
      rw [hN]
      intro z
      obtain ⟨ys, e⟩ := hdk.is
      rw [z] at e
      cases e
    refine ⟨_, (pss_cons (ps_set (i := 1) scLawOdd.nd rfl (by first | exact Or.inl rfl | exact Or.inr rfl) (lit_lst (N := N) (lits_cons lit_non (lits_cons lit_bl (lits_cons lit_bl (lits_cons lit_int (lits_cons lit_int (lits_cons lit_neg (lits_cons lit_int (lits_cons (lit_pow (by decide)) (lits_cons lit_str (lits_cons lit_str (lits_cons lit_str (lits_cons lit_str (lits_cons lit_str (lits_cons (lit_tup lits_nil (by decide)) (lits_cons (lit_lst lits_nil (by decide)) (lits_cons lit_dict0 (lits_cons (lit_tup (lits_cons lit_int lits_nil) (by decide)) (lits_cons (lit_lst (lits_cons lit_int lits_nil) (by decide)) (lits_cons (lit_tup (lits_cons lit_int (lits_cons lit_int lits_nil)) (by decide)) lits_nil))))))))))))))))))) (by decide)))
      (pss_cons (ps_set (i := 1) scLawOdd.nd rfl (by first | exact Or.inl rfl | exact Or.inr rfl) (pe_op op_cat (pv 1) (lit_lst (N := N) (lits_cons (lit_tup (lits_cons lit_int (lits_cons lit_int lits_nil)) (by decide)) (lits_cons (lit_tup (lits_cons (lit_tup (lits_cons lit_str (lits_cons (lit_tup lits_nil (by decide)) lits_nil)) (by decide)) lits_nil) (by decide)) (lits_cons (lit_lst (lits_cons (lit_tup (lits_cons lit_str (lits_cons (lit_tup (lits_cons lit_int lits_nil) (by decide)) lits_nil)) (by decide)) lits_nil) (by decide)) lits_nil))) (by decide))))
      (pss_cons (ps_set (i := 1) scLawOdd.nd rfl (by first | exact Or.inl rfl | exact Or.inr rfl) (pe_op op_cat (pv 1) (lit_lst (N := N) (lits_cons (lit_tup (lits_cons (lit_tup lits_nil (by decide)) lits_nil) (by decide)) (lits_cons (lit_tup (lits_cons lit_str lits_nil) (by decide)) (lits_cons (lit_tup (lits_cons lit_bl lits_nil) (by decide)) (lits_cons (lit_tup (lits_cons lit_non lits_nil) (by decide)) (lits_cons (lit_tup (lits_cons lit_str lits_nil) (by decide)) (lits_cons (lit_tup (lits_cons lit_int (lits_cons lit_str lits_nil)) (by decide)) (lits_cons (lit_tup (lits_cons (lit_tup (lits_cons lit_int lits_nil) (by decide)) (lits_cons lit_str lits_nil)) (by decide)) (lits_cons lit_str (lits_cons (lit_tup (lits_cons lit_neg lits_nil) (by decide)) (lits_cons (lit_tup (lits_cons lit_int lits_nil) (by decide)) (lits_cons (lit_lst (lits_cons (lit_lst (lits_cons lit_int lits_nil) (by decide)) lits_nil) (by decide)) lits_nil))))))))))) (by decide))))
      (pss_cons (ps_expr (pe_bm PySem.F.plainAttrs_list PySem.F.slot_list_append PySem.F.type_list_append mt_append (pv 1) (pa_cons (pe_callH HD (hr.mono (by decide)) rfl (pa_cons (pv 0) pa_nil)) pa_nil)))
      (pss_one (ps_ret (pe_ix ix_list (pv 1) (pe_callH HT (hr.mono (by decide)) rfl (pa_cons (pv 0) (pa_cons (pe_callB call_len rfl T.len PySem.boot_len (pa_cons (pv 1) pa_nil)) pa_nil))) (fun _ _ => rfl)))))))), ?_⟩
    refine ⟨us, fun v1 H1 s1 d1 => ?_⟩
    obtain ⟨p1, xs1, rfl, n1, h1, r1⟩ := dt_lst d1
    refine ⟨_, rfl, us.same s1, fun v2 H2 s2 d2 => ?_⟩
    obtain ⟨p2, xs2, rfl, n2, h2, r2⟩ := dt_lst d2
    have l1 : xs1.length = 19 := r1.len
    have l2 : xs2.length = 3 := r2.len
    refine ⟨_, _, _, _, rfl, rfl, s2 _ _ h1, h2, by show _ ≤ sizeLine; rw [l1, l2]; decide, fun p3 e3 => ?_⟩
    have s3 : Same H2 (upd H2 p3 (.lst (xs1 ++ xs2))) := Same.new e3
    have h3 : (upd H2 p3 (.lst (xs1 ++ xs2))) p3 = some (.lst (xs1 ++ xs2)) := upd_same
    generalize upd H2 p3 (.lst (xs1 ++ xs2)) = H3 at *
    refine ⟨_, rfl, us.same ((s1.trans s2).trans s3), fun v4 H4 s4 d4 => ?_⟩
    obtain ⟨p4, xs4, rfl, n4, h4, r4⟩ := dt_lst d4
    have l4 : xs4.length = 11 := r4.len
    refine ⟨_, _, _, _, rfl, rfl, s4 _ _ h3, h4, by show _ ≤ sizeLine; rw [List.length_append, l1, l2, l4]; decide, fun p5 e5 => ?_⟩
    have s5 : Same H4 (upd H4 p5 (.lst ((xs1 ++ xs2) ++ xs4))) := Same.new e5
    have h5 : (upd H4 p5 (.lst ((xs1 ++ xs2) ++ xs4))) p5 = some (.lst ((xs1 ++ xs2) ++ xs4)) := upd_same
    generalize upd H4 p5 (.lst ((xs1 ++ xs2) ++ xs4)) = H5 at *
    have r3 := ((r1.fr (FrO.same (s2.trans (s3.trans s4)))).append (r2.fr (FrO.same (s3.trans s4)))).append r4
    have s05 := (s1.trans s2).trans (s3.trans (s4.trans s5))
    have dk5 := hdk.keep s05
    have np5 : p5 ≠ a := fun z => by
      obtain ⟨ys, e⟩ := (hdk.keep ((s1.trans s2).trans (s3.trans s4))).is
      rw [← z, e5] at e
      cases e
    refine ⟨_, rfl, .inl ⟨rfl, _, SqL.of h5⟩, _, rfl, a, l, rfl, dk5, fun v6 d6 H6 fv6 fi6 dk6 f6 => ?_⟩
    have h6 := f6 _ _ h5 np5
    have big : ((xs1 ++ xs2) ++ xs4).length = 33 := by rw [List.length_append, List.length_append, l1, l2, l4]
    refine ⟨p5, _, _, rfl, rfl, h6, by rw [big]; decide, ?_⟩
    have np5l : p5 ≠ l := fun z => by
      obtain ⟨ys, e⟩ := (hdk.keep ((s1.trans s2).trans (s3.trans s4))).is'
      rw [← z, e5] at e
      cases e
    have dk7 := dk6.put (o := .lst (((xs1 ++ xs2) ++ xs4) ++ [v6])) np5 np5l
    have h7 : (upd H6 p5 (.lst (((xs1 ++ xs2) ++ xs4) ++ [v6]))) p5 = some (.lst (((xs1 ++ xs2) ++ xs4) ++ [v6])) := upd_same
    have f7 : ∀ b o, H6 b = some o → b ≠ p5 → (upd H6 p5 (.lst (((xs1 ++ xs2) ++ xs4) ++ [v6]))) b = some o := fun b o e n => by rw [upd_ne n]; exact e
    generalize upd H6 p5 (.lst (((xs1 ++ xs2) ++ xs4) ++ [v6])) = H7 at *
    have fr47 : FrO N H4 H7 := fun b o e n => by
      have nb : b ≠ a := fun z => n (z ▸ na)
      exact f7 _ _ (f6 _ _ (s5 _ _ e) nb) (ne_of_none e e5)
    have r7 : DtAll N H7 (((xs1 ++ xs2) ++ xs4) ++ [v6]) (((odd1 ++ odd2) ++ odd3) ++ [d6]) := by
      refine (r3.fr fr47).append (.cons ?_ .nil)
      have q := fv6 (fun p => H5 p ≠ none) (by
        intro z
        obtain ⟨ys, e⟩ := dk5.is
        rw [z] at e
        cases e) (fun p n => n)
      have q7 : Dt (fun p => H5 p ≠ none) H7 v6 d6 := q.fr fun b o e n => f7 b o e fun z => n (by rw [z, h5]; simp)
      exact q7.less fun p np z => by
        have := us.same s05 p np
        exact this z
    have fr07 : Fr a H H7 := fun b o e n => by
      have e4 := s4 _ _ (s3 _ _ (s2 _ _ (s1 _ _ e)))
      exact f7 _ _ (f6 _ _ (s5 _ _ e4) n) (ne_of_none e4 e5)
    have len7 : (((xs1 ++ xs2) ++ xs4) ++ [v6]).length = 34 := by rw [List.length_append, big]; rfl
    refine ⟨_, rfl, _, rfl, _, rfl, _, _, rfl, .inl ⟨_, SqL.of h7, rfl⟩, a, l, _, rfl, dk7, by rw [len7]; decide, by rw [len7]; decide, fun j H8 j0 j1 dk8 f8 o8 => ?_⟩
    rw [len7] at j1
    have jl : j.toNat < (((xs1 ++ xs2) ++ xs4) ++ [v6]).length := by rw [len7]; omega
    have g8 : (((xs1 ++ xs2) ++ xs4) ++ [v6])[j.toNat]? = some ((((xs1 ++ xs2) ++ xs4) ++ [v6])[j.toNat]) := List.getElem?_eq_getElem jl
    obtain ⟨d8, at8, t8⟩ := r7.get g8
    have fine8 : Fine 120 40 d8 := by
      rcases List.mem_append.mp (List.mem_of_getElem? at8) with m | m
      · exact odd_fine d8 m
      · obtain rfl := List.mem_singleton.mp m
        exact fi6.mono (by omega) (by omega)
    refine ⟨p5, _, _, _, rfl, rfl, SqL.of (f8 _ _ h7 np5), at_of (j := j.toNat) (by omega) g8, ?_⟩
    refine k _ d8 H8 (fun N0 n0 u0 => ?_) fine8 dk8 (fr07.trans f8)
    have t := t8.fr (H' := H8) fun b o e n => f8 b o e fun z => n (z ▸ na)
    exact t.less fun p np => by rw [hN]; exact u0 p np
end
end Xci

namespace Xci
open PySem L2
section
variable {P : Program} {w : World} {K : PySem.W.Frag} {mg : Str → Option Value} {base : Heap}
theorem okd_integer {f : Addr} {fd : FuncData} (F : Fun K "is_integer" "is_integer" sIsInteger f fd) (T : Txt mg) : FnOk P w K mg base CX0 1 f fd ["thing"] spIntD := by
  refine F.ok scIsInteger (fun vs H Q E h => ?_) (fun cdv A outer s H vs Q E hr h => ?_)
  · obtain ⟨a, v, d, rfl, _⟩ := h
    rfl
  · obtain ⟨a, v, d, rfl, hd, k⟩ := h
    refine ⟨_, (pss_one (ps_ret (pe_and (pe_callB call_isi rfl T.isinstance (by decide +kernel) (pa_cons (pv 0) (pa_cons (pe_bltn rfl T.int (by decide +kernel) (v := V.ty "int") rfl) pa_nil))) (pe_one (pe_not (pe_callB call_isi rfl T.isinstance (by decide +kernel) (pa_cons (pv 0) (pa_cons (pe_bltn rfl T.bool (by decide +kernel) (v := V.ty "bool") rfl) pa_nil)))))))), ?_⟩
    rw [← intD_isa] at k
    refine ⟨_, rfl, _, _, _, _, _, rfl, .ty _, dt_ty hd, kit_D d (.inl rfl), _, rfl, ?_⟩
    cases h1 : isaD "int" d with
    | false =>
      rw [h1] at k
      exact k
    | true =>
      rw [h1] at k
      refine ⟨_, rfl, _, _, _, _, _, rfl, .ty _, dt_ty hd, kit_D d (.inr (.inl rfl)), _, rfl, k⟩
theorem okd_between {f : Addr} {fd : FuncData} (F : Fun K "is_between" "is_between" sIsBetween f fd) (HI : Has P w K mg base "is_integer" ["thing"] 1 spIntD) : FnOk P w K mg base CX0 2 f fd ["low", "high", "thing"] spBtwD := by
  refine F.ok scIsBetween (fun vs H Q E h => ?_) (fun cdv A outer s H vs Q E hr h => ?_)
  · obtain ⟨a, lo, hi, v, d, rfl, _⟩ := h
    rfl
  · obtain ⟨a, lo, hi, v, d, rfl, hd, k⟩ := h
    refine ⟨_, (pss_one (ps_ret (pe_and (pe_callH HI (hr.mono (by decide)) rfl (pa_cons (pv 2) pa_nil)) (pe_one (pe_chain op_le op_le (pv 0) (pv 2) (pv 1)))))), ?_⟩
    refine ⟨_, rfl, a, v, d, rfl, hd, _, rfl, ?_⟩
    cases hd with
    | int x =>
      refine ⟨_, rfl, _, rfl, _, _, rfl, rfl, _, rfl, ?_⟩
      refine ite2 (fun h1 => ?_) (fun h1 => ?_)
      · have h1' : lo ≤ x := of_decide_eq_true h1
        refine ⟨_, rfl, _, _, rfl, rfl, ?_⟩
        have e : btwD lo hi (.int x) = decide (x ≤ hi) := by simp [btwD, h1']
        rw [e] at k
        exact k
      · have h1' : ¬ lo ≤ x := fun q => h1 (decide_eq_true q)
        have e : btwD lo hi (.int x) = false := by simp [btwD, h1']
        rw [e] at k
        exact k
    | _ => exact k
theorem okd_cell {f : Addr} {fd : FuncData} (F : Fun K "is_cell" "is_cell" sIsCell f fd) (T : Txt mg) (HB : Has P w K mg base "is_between" ["low", "high", "thing"] 2 spBtwD) : FnOk P w K mg base CX0 3 f fd ["many", "thing"] spCellD := by
  refine F.ok scIsCell (fun vs H Q E h => ?_) (fun cdv A outer s H vs Q E hr h => ?_)
  · obtain ⟨a, n, v, d, rfl, _⟩ := h
    rfl
  · obtain ⟨a, n, v, d, rfl, hd, k⟩ := h
    refine ⟨_, (pss_cons (ps_if (pt_not (pt_val (pe_callB call_isi rfl T.isinstance (by decide +kernel) (pa_cons (pv 1) (pa_cons (pe_bltn rfl T.tuple (by decide +kernel) (v := V.ty "tuple") rfl) pa_nil))))) (pss_one (ps_ret pe_bl)) pss_nil)
      (pss_cons (ps_set (i := 2) scIsCell.nd rfl (by first | exact Or.inl rfl | exact Or.inr rfl) pe_int)
      (pss_cons (ps_for PassesOwn.never rfl (pi_tup (pv 1)) (pg_name (i := 3) scIsCell.nd rfl (by first | exact Or.inl rfl | exact Or.inr rfl)) (pss_cons (ps_if (pt_not (pt_val (pe_callH HB (hr.mono (by decide)) rfl (pa_cons (pv 2) (pa_cons (pe_op op_sub (pv 0) pe_int) (pa_cons (pv 3) pa_nil)))))) (pss_one (ps_ret pe_bl)) pss_nil)
      (pss_one (ps_set (i := 2) scIsCell.nd rfl (by first | exact Or.inl rfl | exact Or.inr rfl) (pe_op op_add (pv 3) pe_int)))))
      (pss_one (ps_ret pe_bl))))), ?_⟩
    refine ⟨_, rfl, _, _, _, _, _, rfl, .ty _, dt_ty hd, kit_D d (.inr (.inr (.inr (.inr (.inl rfl))))), _, rfl, ?_⟩
    cases h1 : isaD "tuple" d with
    | false =>
      rw [(isa_tup_not (by rw [h1]; decide)).1] at k
      exact iteT k
    | true =>
      obtain ⟨ds, rfl⟩ := (isa_tup d).mp h1
      obtain ⟨p, xs, rfl, _, hp, r⟩ := dt_tup hd
      refine iteF ?_
      refine ⟨_, rfl, p, rfl, ⟨_, sqT hp⟩, for_tup (K := K) (a := p) (xs := xs) (fun i σ H2 => H2 = H ∧ ∃ (z : Int) (v : Option V), σ = [some (.int n), some (.ref p), some (.int z), v] ∧ cellD n (.tuple ds) = cellFrom n z (ds.drop i)) ⟨rfl, 0, none, rfl, rfl⟩ (fun i σ H2 _ ⟨e, _⟩ => by rw [e]; exact sqT hp) ?_ ?_⟩
      · rintro i y σ H2 hi ⟨rfl, z, v, rfl, hz⟩
        obtain ⟨d', at_, hy⟩ := r.get hi
        obtain ⟨l1, l2⟩ := List.getElem?_eq_some_iff.mp at_
        rw [List.drop_eq_getElem_cons l1, l2] at hz
        refine ⟨_, rfl, _, rfl, _, _, rfl, rfl, _, rfl, a, z, n - 1, y, d', rfl, hy, _, rfl, ?_⟩
        cases hy with
        | int x =>
          refine ite2 (fun hf => ?_) (fun hf => ?_)
          · have hf' : (!decide (z ≤ x ∧ x ≤ n - 1)) = true := hf
            have e : cellD n (.tuple ds) = false := by
              rw [hz]
              simp only [cellFrom, Bool.and_eq_false_iff]
              exact .inl (by rw [Bool.not_eq_true'] at hf'; exact hf')
            rw [e] at k
            exact k
          · have hf' : decide (z ≤ x ∧ x ≤ n - 1) = true := by simpa [btwD] using hf
            refine ⟨_, rfl, _, _, rfl, rfl, ?_⟩
            refine ⟨rfl, x + 1, _, rfl, ?_⟩
            rw [hz]
            simp only [cellFrom, hf', Bool.true_and]
        | _ =>
          have e : cellD n (.tuple ds) = false := by rw [hz]; rfl
          rw [e] at k
          exact iteT k
      · rintro σ H2 ⟨rfl, z, v, rfl, hz⟩
        rw [← r.len.symm, List.drop_length] at hz
        have e : cellD n (.tuple ds) = true := hz
        rw [e] at k
        exact k
end
end Xci

namespace Xci
open PySem L2 NdefX
section
variable {P : Program} {w : World} {K : PySem.W.Frag} {mg : Str → Option Value} {base : Heap}
abbrev sNoCellInit : Stmt := inClass (top 4) 0
abbrev nNoCell (cc cda : Addr) : NF := ⟨"__init__", "NoCell.__init__", defArgs sNoCellInit, defBody sNoCellInit, defScope sNoCellInit, [(("__class__" : Str), cc)], cda⟩
theorem err_NoCell {C fI cc cda : Addr} (XC : XCls P K mg C fI cc (nNoCell cc cda)) (iC : PySem.W.findIn K (.ref C) "__init__" = some (some (.ref fI))) (tI : PySem.W.typeIn K (.ref fI) = some (.type "function")) (at_ : mg "NoCell" = some (.ref C)) : ErrC P w K mg base "NoCell" C ["self"] (spX0 C) := by
  have XT : XTxt (nNoCell cc cda) := ⟨rfl, rfl, rfl, rfl, _, rfl, rfl⟩
  have S : NScope ["self", "__class__"] ["self"] ["__class__"] (defScope sNoCellInit) := nscope_by (by decide +kernel)
  obtain ⟨fd, F1, hb⟩ : ∃ fd, FnOk P w K mg base CX0 1 fI fd ["self"] (spX0 C) ∧ Binds K fd ["self"] [] := by
    refine init_fn (k := 0) XC XT S rfl rfl (fun _ _ _ _ _ us hl => match us, hl with | [_], _ => rfl) (fun L => rfl) (fun vs H Q E h => ?_) (fun A outer s H vs Q E hr h => ?_)
    · obtain ⟨a, rfl, ea, _⟩ := h
      exact ⟨rfl, a, [], rfl, ea⟩
    · obtain ⟨a, rfl, ea, k⟩ := h
      exact ⟨_, pss_nil, k⟩
  exact ⟨⟨fI, fd, iC, tI, F1, hb⟩, XC.ox, at_⟩
abbrev sTooManyInit : Stmt := inClass (top 3) 0
abbrev nTooMany (cc cda : Addr) : NF := ⟨"__init__", "TooMany.__init__", defArgs sTooManyInit, defBody sTooManyInit, defScope sTooManyInit, [(("__class__" : Str), cc)], cda⟩
theorem err_TooMany {C fI cc cda : Addr} (XC : XCls P K mg C fI cc (nTooMany cc cda)) (nomost : PySem.W.findIn K (.ref C) "most" = some none) (iC : PySem.W.findIn K (.ref C) "__init__" = some (some (.ref fI))) (tI : PySem.W.typeIn K (.ref fI) = some (.type "function")) (at_ : mg "TooMany" = some (.ref C)) : ErrC P w K mg base "TooMany" C ["self", "most"] (spX1 C "most") := by
  have XT : XTxt (nTooMany cc cda) := ⟨rfl, rfl, rfl, rfl, _, rfl, rfl⟩
  have S : NScope ["self", "most", "__class__"] ["self", "most"] ["__class__"] (defScope sTooManyInit) := nscope_by (by decide +kernel)
  obtain ⟨fd, F1, hb⟩ : ∃ fd, FnOk P w K mg base CX0 1 fI fd ["self", "most"] (spX1 C "most") ∧ Binds K fd ["self", "most"] [] := by
    refine init_fn (k := 0) XC XT S rfl rfl (fun _ _ _ _ _ us hl => match us, hl with | [_, _], _ => rfl) (fun L => rfl) (fun vs H Q E h => ?_) (fun A outer s H vs Q E hr h => ?_)
    · obtain ⟨a, v, rfl, ea, _⟩ := h
      exact ⟨rfl, a, [v], rfl, ea⟩
    · obtain ⟨a, v, rfl, ea, k⟩ := h
      exact ⟨_, pss_one (ps_ost (pv 0) (pv 1)), _, rfl, _, rfl, a, C, rfl, XC.ox, nomost, .inl ⟨ea, fun dx n1 n2 => k dx n1 n2⟩⟩
  exact ⟨⟨fI, fd, iC, tI, F1, hb⟩, XC.ox, at_⟩
end
end Xci

namespace Xci
open PySem L2 NdefX
def spFitBad (CN : Addr) : Sp := fun vs H _ E => ∃ (N : Out) (b : Addr) (v : V) (d : PyData), vs = [.ref b, v] ∧ Dt N H v d ∧ cellD 6 d = false ∧ ∀ H', Same H H' → E (.ref CN) none H'
def spLimitX (CF C CM : Addr) : Sp := fun vs H Q E => ∃ (fam p : Addr) (many : Int) (pc : Addr) (ys : List V) (fs : List (Option Str)), vs = [.ref fam, .ref p] ∧ FamAt CF H fam many pc ∧ H pc = some (.tup ys) ∧ H p = some (.tup (fs.map formV)) ∧ fs.length = ys.length ∧ ys.length ≤ 24 ∧ (∀ z, some z ∈ fs → WordOk z) ∧
  ∀ zs, Rising fs zs → (12 < zs.length → ∀ d H', H' d = some (.xd [("most", .int 12)]) → Same H H' → E (.ref CM) (some d) H') ∧ (zs.length ≤ 12 → ∀ (t : Addr) (H' : Hp), TabAt C H' t fam p → Same H H' → Q (.ref t) H')
def spMadeX (CF C CB CM : Addr) : Sp := fun vs H Q E => ∃ (b fam : Addr) (man : Str) (ws : List Int) (es : List Ent) (many : Int) (pc : Addr) (cy : List V) (cells : List (List Int)), vs = [.ref b, .ref fam] ∧ BookSt CB H b man ws es ∧ Man man ∧ FamAt CF H fam many pc ∧ H pc = some (.tup cy) ∧ Mks H cy cells ∧ FamOk many cells ∧
  ∀ zs, Rising (heardAll man ws es cells) zs → (12 < zs.length → ∀ d H', H' d = some (.xd [("most", .int 12)]) → Same H H' → E (.ref CM) (some d) H') ∧ (zs.length ≤ 12 → ∀ (x : V) (H' : Hp), Same H H' → Q x H')
section
variable {P : Program} {w : World} {K : PySem.W.Frag} {mg : Str → Option Value} {base : Heap}
theorem ok_speakerRow {f C : Addr} {fd : FuncData} (F : Fun K "speaker" "speaker" sSpeaker f fd) (HF : Has P w K mg base "fitting" ["book", "cell"] 4 (spFitting C)) (HS : Has P w K mg base "speaking" ["book", "numbers"] 1 (spSpeakingRow C)) :
    FnOk P w K mg base CX0 5 f fd ["book", "cell"] (spSpeakerRow C) := by
  refine F.ok scSpeaker (fun vs H Q E h => ?_) (fun cdv A outer s H vs Q E hr h => ?_)
  · obtain ⟨b, p, wt, v, ys, es, ms, rfl, _⟩ := h
    rfl
  · obtain ⟨b, p, wt, v, ys, es, ms, rfl, hb, hp, ents, eok, el, mv, mok, k⟩ := h
    refine ⟨_, (pss_cons (ps_set (i := 2) scSpeaker.nd rfl (by first | exact Or.inl rfl | exact Or.inr rfl) (pe_callH HF (hr.mono (by decide)) rfl (pa_cons (pv 0) (pa_cons (pv 1) pa_nil))))
      (pss_cons (ps_if (pt_not (pt_truth (pv 2) (fun _ => rfl))) (pss_one (ps_ret (pe_tup (pa_cons pe_str pa_nil)))) pss_nil)
      (pss_cons (ps_set (i := 3) scSpeaker.nd rfl (by first | exact Or.inl rfl | exact Or.inr rfl) (pe_callH HS (hr.mono (by decide)) rfl (pa_cons (pv 0) (pa_cons (pv 2) pa_nil))))
      (pss_cons (ps_if (pt_cmpR op_isN (pv 3) pe_non (nomark _)) (pss_one ps_never) pss_nil)
      (pss_one (ps_ret (pe_tup (pa_cons pe_str (pa_cons (pv 3) pa_nil))))))))), ?_⟩
    refine ⟨_, rfl, _, rfl, b, p, "row", wt, v, ys, es, ms, rfl, hb, hp, ents, eok, el, mv, mok, fun q H1 hq s1 => ?_⟩
    obtain ⟨dx, hbx⟩ := hb
    refine ⟨_, rfl, _, .inr (.inl ⟨_, sqT hq, rfl⟩), ?_⟩
    cases hjs : fitN es ms with
    | nil =>
      rw [hjs] at hq k
      refine iteT ⟨(by show 1 ≤ sizeLine; decide), fun t ht => ?_⟩
      exact k _ _ ⟨t, rfl, upd_same⟩ (s1.trans (Same.new ht))
    | cons j r =>
      rw [hjs] at hq k
      refine iteF ?_
      refine ⟨_, rfl, _, rfl, b, p, q, wt, j :: r, rfl, ⟨dx, s1 _ _ hbx⟩, hq, ?_⟩
      refine ⟨_, rfl, rfl, _, rfl, ?_⟩
      refine iteF ?_
      refine ⟨_, rfl, (by show 2 ≤ sizeLine; decide), fun t ht => ?_⟩
      exact k _ _ ⟨t, rfl, upd_same⟩ (s1.trans (Same.new ht))
theorem okd_fittingBad {f CN : Addr} {fd : FuncData} (F : Fun K "fitting" "fitting" sFitting f fd) (c : Cst mg) (HC : Has P w K mg base "is_cell" ["many", "thing"] 3 spCellD) (HN : ErrC P w K mg base "NoCell" CN ["self"] (spX0 CN)) : FnOk P w K mg base (L2.CX P w) 4 f fd ["book", "cell"] (spFitBad CN) := by
  refine F.okX scFitting (fun vs H Q E h => ?_) (fun cdv A outer s H vs Q E hr h => ?_)
  · obtain ⟨N, b, v, d, rfl, _⟩ := h
    rfl
  · obtain ⟨N, b, v, d, rfl, hd, bad, k⟩ := h
    refine ⟨_, (pss_cons (ps_if (pt_not (pt_val (pe_callH HC (hr.mono (by decide)) rfl (pa_cons (pe_gint rfl c.MARKS) (pa_cons (pv 1) pa_nil))))) (pss_one (ps_raise rfl (takes_of rfl rfl rfl rfl) (pmk_e0 HN (hr.mono (by decide)) rfl))) pss_nil)
      pss_never), ?_⟩
    refine ⟨_, rfl, N, 6, v, d, rfl, hd, _, rfl, ?_⟩
    rw [bad]
    exact iteT (k H (Same.refl H))
theorem okd_speakerBad {f CN : Addr} {fd : FuncData} (F : Fun K "speaker" "speaker" sSpeaker f fd) (HF : HasR P w K mg base "fitting" ["book", "cell"] 4 (spFitBad CN)) : FnOk P w K mg base (L2.CX P w) 5 f fd ["book", "cell"] (spFitBad CN) := by
  refine F.okX scSpeaker (fun vs H Q E h => ?_) (fun cdv A outer s H vs Q E hr h => ?_)
  · obtain ⟨N, b, v, d, rfl, _⟩ := h
    rfl
  · obtain ⟨N, b, v, d, rfl, hd, bad, k⟩ := h
    refine ⟨_, (pss_cons (ps_set (i := 2) scSpeaker.nd rfl (by first | exact Or.inl rfl | exact Or.inr rfl) (pe_callX HF (hr.mono (by decide)) rfl (takes_of rfl rfl rfl rfl) (pa_cons (pv 0) (pa_cons (pv 1) pa_nil))))
      pss_never), ?_⟩
    exact ⟨_, rfl, _, rfl, N, b, v, d, rfl, hd, bad, k⟩
theorem okd_limited {f C CF CM : Addr} {fd : FuncData} (F : Fun K "limited" "limited" sLimited f fd) (T : Txt mg) (c : TabCst mg) (HU : Has P w K mg base "_unlike" ["forms"] 1 spUnlike) (HM : ErrC P w K mg base "TooMany" CM ["self", "most"] (spX1 CM "most")) (HTb : HasC P w K mg base "Table" C ["self", "family", "forms"] 3 (spTab CF C)) :
    FnOk P w K mg base (L2.CX P w) 5 f fd ["family", "forms"] (spLimitX CF C CM) := by
  refine F.okX scLimited (fun vs H Q E h => ?_) (fun cdv A outer s H vs Q E hr h => ?_)
  · obtain ⟨fam, p, many, pc, ys, fs, rfl, _⟩ := h
    rfl
  · obtain ⟨fam, p, many, pc, ys, fs, rfl, ⟨df, hf⟩, hc, hp, len, few, word, k⟩ := h
    refine ⟨_, (pss_cons (ps_if (pt_cmpR op_gt (pe_callB call_len rfl T.len PySem.boot_len (pa_cons (pe_callH HU (hr.mono (by decide)) rfl (pa_cons (pv 1) pa_nil)) pa_nil)) (pe_gint rfl c.MOST_FORMS) (nomark _)) (pss_one (ps_raise rfl (takes_of rfl rfl rfl rfl) (pmk_en HM (hr.mono (by decide)) rfl (pa_cons (pe_gint rfl c.MOST_FORMS) pa_nil)))) pss_nil)
      (pss_one (ps_ret (pe_makeH HTb (hr.mono (by decide)) rfl (pa_cons (pv 0) (pa_cons (pv 1) pa_nil)))))), ?_⟩
    refine ⟨_, rfl, p, fs, rfl, hp, by omega, fun q zs H1 rise hq s1 => ?_⟩
    obtain ⟨k1, k2⟩ := k zs rise
    refine ⟨_, zs.length, rfl, .inl ⟨_, SqL.of hq, by rw [List.length_map]⟩, _, _, rfl, rfl, _, rfl, ?_⟩
    refine ite2 (fun big => ?_) (fun small => ?_)
    · have big' : (12 : Int) < ((zs.length : Nat) : Int) := of_decide_eq_true big
      exact x1_read fun d H6 e6 _ s6 => k1 (by omega) d H6 e6 (s1.trans s6)
    have few12 : zs.length ≤ 12 := by
      have : ¬ (12 : Int) < ((zs.length : Nat) : Int) := fun z => small (decide_eq_true z)
      omega
    have ok : FormsOk ys.length fs := ⟨len, few, word, fun us ru => by rw [show us = zs from ru.one rise]; exact few12⟩
    refine ⟨_, rfl, _, rfl, ?_⟩
    intro y dy ny ndy ney
    have s6 : Same H1 (upd (upd H1 dy (.own y)) y (.ins C dy [])) := fun b o e => by rw [upd_ne (ne_of_none e ny), upd_ne (ne_of_none e ndy)]; exact e
    have nf : y ≠ fam := (ne_of_none (s1 _ _ hf) ny).symm
    refine ⟨y, dy, fam, many, pc, ys, p, fs, rfl, upd_same, ⟨df, s6 _ _ (s1 _ _ hf)⟩, nf, s6 _ _ (s1 _ _ hc), s6 _ _ (s1 _ _ hp), ok, fun H6 ht kq => ?_⟩
    have s56 : Same H1 H6 := fun b o e => kq b o (s6 b o e) (ne_of_none e ny)
    exact ⟨rfl, k2 few12 y H6 ht (s1.trans s56)⟩
theorem okd_made {f C CF CB CM : Addr} {fd : FuncData} (F : Fun K "made" "made" sMade f fd) (HFM : Has P w K mg base "forms_made" ["book", "family"] 6 (spFormsMade CF CB)) (HLi : HasR P w K mg base "limited" ["family", "forms"] 5 (spLimitX CF C CM)) :
    FnOk P w K mg base (L2.CX P w) 7 f fd ["book", "family"] (spMadeX CF C CB CM) := by
  refine F.okX scMade (fun vs H Q E h => ?_) (fun cdv A outer s H vs Q E hr h => ?_)
  · obtain ⟨b, fam, man, ws, es, many, pc, cy, cells, rfl, _⟩ := h
    rfl
  · obtain ⟨b, fam, man, ws, es, many, pc, cy, cells, rfl, bs, hm, hf, cp, cm, fok, k⟩ := h
    refine ⟨_, (pss_one (ps_ret (pe_callX HLi (hr.mono (by decide)) rfl (takes_of rfl rfl rfl rfl) (pa_cons (pv 1) (pa_cons (pe_callH HFM (hr.mono (by decide)) rfl (pa_cons (pv 0) (pa_cons (pv 1) pa_nil))) pa_nil))))), ?_⟩
    have cyl : cy.length = cells.length := Paired.length cm
    have few := fok.len
    refine ⟨_, rfl, _, rfl, _, rfl, b, fam, man, ws, es, many, pc, cy, cells, rfl, bs, hm, hf, cp, cm, fok, fun l H5 e5 s5 => ?_⟩
    obtain ⟨df, hf⟩ := hf
    refine ⟨fam, l, many, pc, cy, _, rfl, ⟨df, s5 _ _ hf⟩, s5 _ _ cp, e5, by rw [heardAll_len]; omega, by omega, fun z hz => words_ok bs.ok z (heardAll_mem hz), fun zs rise => ?_⟩
    obtain ⟨k1, k2⟩ := k zs rise
    exact ⟨fun big d H' hd s' => k1 big d H' hd (s5.trans s'), fun small t H' ht s' => k2 small _ H' (s5.trans s')⟩
end
end Xci

namespace Xci
open PySem L2 NdefX
/-- which of the classes is which -/
structure Kit2 (K : PySem.W.Frag) (CN CM : Addr) : Prop where
  k0_0 : PySem.W.kitOne K (.ref CN) (.ref CN) = some true
  k0_1 : PySem.W.kitOne K (.ref CN) (.ref CM) = some false
  k1_0 : PySem.W.kitOne K (.ref CM) (.ref CN) = some false
  k1_1 : PySem.W.kitOne K (.ref CM) (.ref CM) = some true
def spSpeakAny (C CN : Addr) : Sp := fun vs H Q E => spFitBad CN vs H Q E ∨ (spSpeaker C vs H Q E ∨ spSpeakerRow C vs H Q E)
def spFitAny (C CN : Addr) : Sp := fun vs H Q E => spFitBad CN vs H Q E ∨ spFitting C vs H Q E
def spTold (CF CB : Addr) : Sp := fun vs H Q _ =>
  (∃ (N : Out) (wch : Int) (b : Addr) (v : V) (d : PyData) (man : Str) (ws : List Int) (es : List Ent), vs = [.int wch, .ref b, v] ∧ (wch = 0 ∨ wch = 1) ∧ BookSt CB H b man ws es ∧ Man man ∧ Dt N H v d ∧ ∀ H', Same H H' → Q (.str (if cellD 6 d = true then ("let" : Str) else ("cell" : Str))) H') ∨
  (∃ (b fam : Addr) (man : Str) (ws : List Int) (es : List Ent) (many : Int) (pc : Addr) (cy : List V) (cells : List (List Int)), vs = [.int 2, .ref b, .ref fam] ∧ BookSt CB H b man ws es ∧ Man man ∧ FamAt CF H fam many pc ∧ H pc = some (.tup cy) ∧ Mks H cy cells ∧ FamOk many cells ∧
    ∀ zs, Rising (heardAll man ws es cells) zs → ∀ H', Same H H' → Q (.str (if 12 < zs.length then ("many" : Str) else ("let" : Str))) H')
section
variable {P : Program} {w : World} {K : PySem.W.Frag} {mg : Str → Option Value} {base : Heap}
abbrev sLawTold : Stmt := top 67
theorem scLawTold : FnScope ["which", "book", "thing", "told", "e", "flags"] ["which", "book", "thing"] (defScope sLawTold) := ⟨rfl, rfl, rfl, by decide +kernel, rfl, by decide +kernel, by decide +kernel⟩
set_option maxHeartbeats 4000000 in
theorem ok_told {f C CF CB CN CM CBx : Addr} {fd : FuncData} (F : Fun K "_law_told" "_law_told" sLawTold f fd) (T : Txt mg) (cB : Catch K mg "FormError" CBx) (sN : PySem.W.subIn K (.ref CN) (.ref CBx) = some true) (sM : PySem.W.subIn K (.ref CM) (.ref CBx) = some true)
    (eN : ExcC K CN) (eM : ExcC K CM) (mN : mg "NoCell" = some (.ref CN)) (mM : mg "TooMany" = some (.ref CM)) (kk : Kit2 K CN CM) (XF : XfC K CM) (noM : PySem.W.findIn K (.ref CM) "most" = some none)
    (HS : HasR P w K mg base "speaker" ["book", "cell"] 5 (spSpeakAny CB CN)) (HF : HasR P w K mg base "fitting" ["book", "cell"] 4 (spFitAny CB CN)) (HM : HasR P w K mg base "made" ["book", "family"] 7 (spMadeX CF C CB CM)) : FnOk P w K mg base CX0 8 f fd ["which", "book", "thing"] (spTold CF CB) := by
  refine F.ok scLawTold (fun vs H Q E h => ?_) (fun cdv A outer s H vs Q E hr h => ?_)
  · rcases h with ⟨N, wch, b, v, d, man, ws, es, rfl, _⟩ | ⟨b, fam, man, ws, es, many, pc, cy, cells, rfl, _⟩
    · rfl
    · rfl
  · refine ⟨_, (pss_cons (ps_set (i := 3) scLawTold.nd rfl (by first | exact Or.inl rfl | exact Or.inr rfl) pe_str)
      (pss_cons (ps_try_as (i := 4) rfl rfl scLawTold.nd rfl rfl ⟨rfl, by decide, .inl cB.at_⟩ takes0 (fun W pn xe tk _ => (pss_one (ps_if (pt_cmpR op_eq (pv 0) pe_int (nomark _)) (pss_one (ps_expr (pe_callX HS (hr.mono (by decide)) rfl tk (pa_cons (pv 1) (pa_cons (pv 2) pa_nil))))) (pss_one (ps_if (pt_cmpR op_eq (pv 0) pe_int (nomark _)) (pss_one (ps_expr (pe_callX HF (hr.mono (by decide)) rfl tk (pa_cons (pv 1) (pa_cons (pv 2) pa_nil))))) (pss_one (ps_expr (pe_callX HM (hr.mono (by decide)) rfl tk (pa_cons (pv 1) (pa_cons (pv 2) pa_nil)))))))))) (fun a oe cls d pn hz hf => (pss_cons (ps_set (i := 5) scLawTold.nd rfl (by first | exact Or.inl rfl | exact Or.inr rfl) (pe_lst (pa_cons (pe_callB (show CallR _ _ (rIsExD K cls d a) from call_isExD hz hf) rfl T.isinstance (by decide +kernel) (pa_cons (pv 4) (pa_cons (pe_glob (v := .ref CN) rfl mN rfl) pa_nil))) (pa_cons (pe_callB (show CallR _ _ (rIsExD K cls d a) from call_isExD hz hf) rfl T.isinstance (by decide +kernel) (pa_cons (pv 4) (pa_cons (pe_glob (v := .ref CM) rfl mM rfl) pa_nil))) pa_nil))))
      (pss_cons (ps_set (i := 3) scLawTold.nd rfl (by first | exact Or.inl rfl | exact Or.inr rfl) pe_str)
      (pss_cons (ps_if (pt_cmpR op_eq (show PE _ _ (tBM K "list" _ _ _) from (pe_bm PySem.F.plainAttrs_list PySem.F.slot_list_count PySem.F.type_list_count (show MtR _ "list.count" (rCntF K) from mt_countF) (pv 5) (pa_cons pe_bl pa_nil))) pe_int (nomark _)) (pss_one (ps_set (i := 3) scLawTold.nd rfl (by first | exact Or.inl rfl | exact Or.inr rfl) (pe_ix (show IxR _ (rIxL K) from ix_list) (pe_lst (pa_cons pe_str (pa_cons pe_str pa_nil))) (show PE _ _ (tBM K "list" _ _ _) from (pe_bm PySem.F.plainAttrs_list PySem.F.slot_list_index PySem.F.type_list_index (show MtR _ "list.index" (rIndex K) from mt_index) (pv 5) (pa_cons pe_bl pa_nil))) (fun _ _ => rfl)))) pss_nil)
      (pss_one (ps_if (PW.pt (pw_and (pt_cmpR op_eq (pv 3) pe_str (nomark _)) (pw_and1 (pt_cmpR op_ne (pe_xf XF noM hz hf (pv 4)) pe_int (nomark _))))) (pss_one (ps_set (i := 3) scLawTold.nd rfl (by first | exact Or.inl rfl | exact Or.inr rfl) pe_str)) pss_nil)))))))
      (pss_one (ps_ret (pv 3))))), ?_⟩
    rcases h with ⟨N, wch, b, v, d, man, ws, es, rfl, wc, bs, hm, hd0, k⟩ | ⟨b, fam, man, ws, es, many, pc, cy, cells, rfl, bs, hm, hf, cp, cm, fok, k⟩
    · refine ⟨_, rfl, rfl, _, rfl, ?_⟩
      obtain ⟨p, wt, ys, hb, hp, ents, hw⟩ := bs.ex
      rcases wc with rfl | rfl
      · refine iteT ?_
        refine ⟨_, rfl, _, rfl, ?_⟩
        cases hc : cellD 6 d with
        | false =>
          rw [hc] at k
          refine .inl ⟨N, b, v, d, rfl, hd0, hc, fun H2 s2 => ?_⟩
          refine ⟨true, cB.one sN, (fun _ a ha => ?_), fun q => nomatch q⟩
          refine ⟨_, rfl, CN, eN, rfl, (fun dd z => nomatch z), _, _, _, rfl, (fun u r => r), kk.k0_0, _, rfl, CN, eN, rfl, (fun dd z => nomatch z), _, _, _, rfl, (fun u r => r), kk.k0_1, (by show 2 ≤ sizeLine; decide), fun q hq => ?_⟩
          have s3 : Same H2 (upd H2 q (.lst [.bl true, .bl false])) := Same.new hq
          have e3 : (upd H2 q (.lst [.bl true, .bl false])) q = some (.lst [.bl true, .bl false]) := upd_same
          generalize upd H2 q (.lst [.bl true, .bl false]) = H3 at *
          refine ⟨_, rfl, .inl ⟨rfl, _, SqL.of e3⟩, q, _, _, rfl, rfl, SqL.of e3, rfl, rfl, rfl, _, rfl, ?_⟩
          refine iteT ?_
          refine ⟨(by show 2 ≤ sizeLine; decide), fun q2 hq2 => ?_⟩
          have s4 : Same H3 (upd H3 q2 (.lst [.str "cell", .str "many"])) := Same.new hq2
          have e4 : (upd H3 q2 (.lst [.str "cell", .str "many"])) q2 = some (.lst [.str "cell", .str "many"]) := upd_same
          generalize upd H3 q2 (.lst [.str "cell", .str "many"]) = H4 at *
          refine ⟨_, rfl, .inl ⟨rfl, _, SqL.of (s4 _ _ e3)⟩, q, _, _, 0, _, rfl, rfl, SqL.of (s4 _ _ e3), rfl, rfl, rfl, rfl, (fun m z h _ => absurd h (Nat.not_lt_zero m)), ?_⟩
          refine ⟨q2, _, _, _, rfl, rfl, SqL.of e4, at_of (j := 0) rfl rfl, ?_⟩
          refine ⟨_, rfl, rfl, _, rfl, ?_⟩
          refine iteF ?_
          refine iteF ?_
          exact ⟨_, rfl, k H4 ((s2.trans s3).trans s4)⟩
        | true =>
          rw [hc] at k
          obtain ⟨ms, mok, _, mv⟩ := dt_cell hd0 hc
          refine .inr ?_
          rcases n_row3 hm with rfl | ⟨hn, h3⟩
          · exact .inr ⟨b, p, wt, v, ys, es, ms, rfl, hb, hp, ents, bs.ok, bs.len, mv, mok, fun u H' _ s' => ⟨_, rfl, k H' s'⟩⟩
          · exact .inl ⟨b, v, man, ws, es, ms, rfl, bs, h3, mv, mok, fun u H' _ s' => ⟨_, rfl, k H' s'⟩⟩
      · refine iteF ?_
        refine ⟨_, rfl, rfl, _, rfl, ?_⟩
        refine iteT ?_
        refine ⟨_, rfl, _, rfl, ?_⟩
        cases hc : cellD 6 d with
        | false =>
          rw [hc] at k
          refine .inl ⟨N, b, v, d, rfl, hd0, hc, fun H2 s2 => ?_⟩
          refine ⟨true, cB.one sN, (fun _ a ha => ?_), fun q => nomatch q⟩
          refine ⟨_, rfl, CN, eN, rfl, (fun dd z => nomatch z), _, _, _, rfl, (fun u r => r), kk.k0_0, _, rfl, CN, eN, rfl, (fun dd z => nomatch z), _, _, _, rfl, (fun u r => r), kk.k0_1, (by show 2 ≤ sizeLine; decide), fun q hq => ?_⟩
          have s3 : Same H2 (upd H2 q (.lst [.bl true, .bl false])) := Same.new hq
          have e3 : (upd H2 q (.lst [.bl true, .bl false])) q = some (.lst [.bl true, .bl false]) := upd_same
          generalize upd H2 q (.lst [.bl true, .bl false]) = H3 at *
          refine ⟨_, rfl, .inl ⟨rfl, _, SqL.of e3⟩, q, _, _, rfl, rfl, SqL.of e3, rfl, rfl, rfl, _, rfl, ?_⟩
          refine iteT ?_
          refine ⟨(by show 2 ≤ sizeLine; decide), fun q2 hq2 => ?_⟩
          have s4 : Same H3 (upd H3 q2 (.lst [.str "cell", .str "many"])) := Same.new hq2
          have e4 : (upd H3 q2 (.lst [.str "cell", .str "many"])) q2 = some (.lst [.str "cell", .str "many"]) := upd_same
          generalize upd H3 q2 (.lst [.str "cell", .str "many"]) = H4 at *
          refine ⟨_, rfl, .inl ⟨rfl, _, SqL.of (s4 _ _ e3)⟩, q, _, _, 0, _, rfl, rfl, SqL.of (s4 _ _ e3), rfl, rfl, rfl, rfl, (fun m z h _ => absurd h (Nat.not_lt_zero m)), ?_⟩
          refine ⟨q2, _, _, _, rfl, rfl, SqL.of e4, at_of (j := 0) rfl rfl, ?_⟩
          refine ⟨_, rfl, rfl, _, rfl, ?_⟩
          refine iteF ?_
          refine iteF ?_
          exact ⟨_, rfl, k H4 ((s2.trans s3).trans s4)⟩
        | true =>
          rw [hc] at k
          obtain ⟨ms, mok, _, mv⟩ := dt_cell hd0 hc
          exact .inr ⟨b, p, man, wt, v, ys, es, ms, rfl, hb, hp, ents, bs.ok, bs.len, mv, mok, fun q H' _ s' => ⟨_, rfl, k H' s'⟩⟩
    · refine ⟨_, rfl, rfl, _, rfl, ?_⟩
      refine iteF ?_
      refine ⟨_, rfl, rfl, _, rfl, ?_⟩
      refine iteF ?_
      refine ⟨_, rfl, _, rfl, b, fam, man, ws, es, many, pc, cy, cells, rfl, bs, hm, hf, cp, cm, fok, fun zs rise => ⟨fun big d H2 hd s2 => ?_, fun small x H2 s2 => ?_⟩⟩
      · have kz := k zs rise
        rw [if_pos big] at kz
        refine ⟨true, cB.one sM, (fun _ a ha => ?_), fun q => nomatch q⟩
        refine ⟨_, rfl, CM, eM, rfl, (fun dd z => by cases z; exact ⟨_, hd⟩), _, _, _, rfl, (fun u r => r), kk.k1_0, _, rfl, CM, eM, rfl, (fun dd z => by cases z; exact ⟨_, hd⟩), _, _, _, rfl, (fun u r => r), kk.k1_1, (by show 2 ≤ sizeLine; decide), fun q hq => ?_⟩
        have s3 : Same H2 (upd H2 q (.lst [.bl false, .bl true])) := Same.new hq
        have e3 : (upd H2 q (.lst [.bl false, .bl true])) q = some (.lst [.bl false, .bl true]) := upd_same
        generalize upd H2 q (.lst [.bl false, .bl true]) = H3 at *
        refine ⟨_, rfl, .inl ⟨rfl, _, SqL.of e3⟩, q, _, _, rfl, rfl, SqL.of e3, rfl, rfl, rfl, _, rfl, ?_⟩
        refine iteT ?_
        refine ⟨(by show 2 ≤ sizeLine; decide), fun q2 hq2 => ?_⟩
        have s4 : Same H3 (upd H3 q2 (.lst [.str "cell", .str "many"])) := Same.new hq2
        have e4 : (upd H3 q2 (.lst [.str "cell", .str "many"])) q2 = some (.lst [.str "cell", .str "many"]) := upd_same
        generalize upd H3 q2 (.lst [.str "cell", .str "many"]) = H4 at *
        refine ⟨_, rfl, .inl ⟨rfl, _, SqL.of (s4 _ _ e3)⟩, q, _, _, 1, _, rfl, rfl, SqL.of (s4 _ _ e3), rfl, rfl, rfl, rfl, (fun m z h e => by
            obtain rfl : m = 0 := by omega
            cases e
            rfl), ?_⟩
        refine ⟨q2, _, _, _, rfl, rfl, SqL.of e4, at_of (j := 1) rfl rfl, ?_⟩
        refine ⟨_, rfl, rfl, _, rfl, ?_⟩
        refine iteT ?_
        refine ⟨_, rfl, rfl, rfl, d, _, .int 12, rfl, s4 _ _ (s3 _ _ hd), rfl, rfl, _, rfl, ?_⟩
        refine iteF ?_
        exact ⟨_, rfl, kz H4 ((s2.trans s3).trans s4)⟩
      · have kz := k zs rise
        rw [if_neg (by omega)] at kz
        exact ⟨_, rfl, kz H2 s2⟩
end
end Xci

namespace Xci
open PySem L2
theorem some_D {K : PySem.W.Frag} {N : Out} {H : Hp} {x : V} {ds : List PyData} {Q : VK} {lo hi : Option Int} (hx : Dt N H x (.tuple ds)) (u : Used N H) (q : ∀ (v : V) (H' : Hp) (es : List PyData), Same H H' → Dt N H' v (.tuple es) → (∀ e ∈ es, e ∈ ds) → es.length ≤ ds.length → Q v H') : rSlA K x lo hi H Q := by
  obtain ⟨a, xs, rfl, na, ha, ra⟩ := dt_tup hx
  refine ⟨a, xs, rfl, sqT ha, fun _ => q _ H ds (Same.refl H) hx (fun _ h => h) (Nat.le_refl _), fun _ p hp => ?_⟩
  refine q _ _ ((ds.drop (HT.sIx xs.length 0 lo)).take (HT.sIx xs.length xs.length hi - HT.sIx xs.length 0 lo)) (Same.new hp) (.tup (u.new hp) upd_same (((ra.cut _).2.cut _).1.fr (FrO.same (Same.new hp)))) (fun e he => List.mem_of_mem_drop (List.mem_of_mem_take he)) ?_
  rw [List.length_take, List.length_drop]
  omega
/-- short data, no long tuple -/
structure Good (d : PyData) : Prop where
  fine : Fine 30000 46 d
  few : ∀ ds, d = .tuple ds → ds.length ≤ 900
theorem Good.tup {ds : List PyData} (h : ∀ e ∈ ds, Fine 300 44 e) (le : ds.length ≤ 90) : Good (.tuple ds) := ⟨(tup_fine h le).1.mono (Nat.le_refl _) (by decide), fun ds' e => by cases e; omega⟩
theorem Good.lst {ds : List PyData} (h : ∀ e ∈ ds, Fine 300 44 e) (le : ds.length ≤ 90) : Good (.list ds) := ⟨(FineAll.of h).lst.mono (by have := Nat.mul_le_mul_left 301 le; omega) (by decide), fun ds' e => by cases e⟩
theorem Good.of {d : PyData} (h : Fine 120 40 d) : Good d := ⟨h.mono (by decide) (by decide), fun ds e => by subst e; exact Nat.le_trans (fine_len h) (by decide)⟩
theorem fineL {ds : List PyData} (h : ds.all (fun d => d.showable && (d.leavesShort 40 && (decide (d.bulk ≤ 60) && decide (d.depth ≤ 30)))) = true) : ∀ d ∈ ds, Fine 60 30 d := fun d hd => by
  have q := List.all_eq_true.mp h d hd
  simp only [Bool.and_eq_true, decide_eq_true_eq] at q
  exact ⟨q.1, q.2.1, q.2.2.1, q.2.2.2⟩
def odd9 : List PyData := [.int 6, .int (-1), .bool true, .bool false, .none, .str "0", .tuple [.int 0], .int (10 ^ (20 : Int).toNat), .int 5]
theorem odd9_fine : ∀ d ∈ odd9, Fine 60 30 d := fineL (by decide +kernel)
def spThing : Sp := fun vs H Q _ => ∃ a l : Addr, vs = [.ref a] ∧ Deck H a l ∧ ∀ (v : V) (d : PyData) (H' : Hp), Dt (· = a) H' v d → Good d → Deck H' a l → Fr a H H' → Q v H'
section
variable {P : Program} {w : World} {K : PySem.W.Frag} {mg : Str → Option Value} {base : Heap}
abbrev sLawThing : Stmt := top 68
theorem scLawThing : FnScope ["deck", "cell", "mark", "at", "odd", "things"] ["deck"] (defScope sLawThing) := ⟨rfl, rfl, rfl, by decide +kernel, rfl, by decide +kernel, by decide +kernel⟩
theorem ok_thing {f : Addr} {fd : FuncData} (F : Fun K "_law_thing" "_law_thing" sLawThing f fd) (T : Txt mg) (HT : Has P w K mg base "_law_take" ["deck", "many"] 1 spTake) (HO : Has P w K mg base "_law_odd" ["deck"] 3 spOdd) : FnOk P w K mg base CX0 4 f fd ["deck"] spThing := by
  refine F.ok scLawThing (fun vs H Q E h => ?_) (fun cdv A outer s H vs Q E hr h => ?_)
  · obtain ⟨a, l, rfl, _⟩ := h
    rfl
  · obtain ⟨a, l, rfl, dk, k⟩ := h
    refine ⟨_, (pss_cons (ps_set (i := 1) scLawThing.nd rfl (by first | exact Or.inl rfl | exact Or.inr rfl) (pe_callTy call_tuple_of rfl T.tuple (by decide +kernel) (pa_cons (pe_lc (own := [("mark", 2)]) rfl scLawThing.nd (pi_range1 rfl T.range (pa_cons pe_int pa_nil)) (blkOk_by (N := ["deck", "cell", "mark", "at", "odd", "things"]) (sc := defScope sLawThing) (by decide +kernel)) (fun _ _ _ _ _ => (pg_name (i := 2) scLawThing.nd rfl (by first | exact Or.inl rfl | exact Or.inr rfl))) (fun _ _ _ _ _ => pts_one (pt_cmpR op_eq (pe_callH HT (hr.mono (by decide)) rfl (pa_cons (pv 0) (pa_cons pe_int pa_nil))) pe_int (nomark _))) (fun _ _ _ _ _ => (pv 2))) pa_nil)))
      (pss_cons (ps_set (i := 3) scLawThing.nd rfl (by first | exact Or.inl rfl | exact Or.inr rfl) (pe_callH HT (hr.mono (by decide)) rfl (pa_cons (pv 0) (pa_cons (pe_op op_add (pe_callB call_len rfl T.len PySem.boot_len (pa_cons (pv 1) pa_nil)) pe_int) pa_nil))))
      (pss_cons (ps_set (i := 4) scLawThing.nd rfl (by first | exact Or.inl rfl | exact Or.inr rfl) (pe_ix ix_list (fl_lst (fls_cons fl_int (fls_cons fl_neg (fls_cons fl_bl (fls_cons fl_bl (fls_cons fl_non (fls_cons fl_str (fls_cons (fl_tup (fls_cons fl_int fls_nil) (by decide)) (fls_cons (fl_pow (by decide)) (fls_cons fl_int fls_nil))))))))) (by decide)) (pe_callH HT (hr.mono (by decide)) rfl (pa_cons (pv 0) (pa_cons pe_int pa_nil))) (fun _ _ => rfl)))
      (pss_cons (ps_set (i := 5) scLawThing.nd rfl (by first | exact Or.inl rfl | exact Or.inr rfl) (pe_lst (pa_cons (pv 1) (pa_cons (pe_revT (pv 1)) (pa_cons (pe_callTy call_list_of rfl T.list (by decide +kernel) (pa_cons (pv 1) pa_nil)) (pa_cons (pe_op op_catA (pe_op op_catA (pe_slice sl_tupA (pv 1) po_none (po_some (pv 3))) (pe_slice sl_tupA (pv 1) (po_some (pv 3)) (po_some (pe_op op_add (pv 3) pe_int)))) (pe_slice sl_tupA (pv 1) (po_some (pv 3)) po_none)) (pa_cons (pe_op op_catA (pe_op op_catA (pe_slice sl_tupA (pv 1) po_none (po_some (pv 3))) (pe_tup (pa_cons (pv 4) pa_nil))) (pe_slice sl_tupA (pv 1) (po_some (pe_op op_add (pv 3) pe_int)) po_none)) pa_nil)))))))
      (pss_cons (ps_set (i := 5) scLawThing.nd rfl (by first | exact Or.inl rfl | exact Or.inr rfl) (pe_op op_cat (pv 5) (pe_lst (pa_cons (pe_op op_catA (pe_op op_catA (pe_slice sl_tupA (pv 1) po_none (po_some (pv 3))) (pe_tup (pa_cons (pv 4) pa_nil))) (pe_slice sl_tupA (pv 1) (po_some (pv 3)) po_none)) (pa_cons (pe_callH HO (hr.mono (by decide)) rfl (pa_cons (pv 0) pa_nil)) (pa_cons (pv 1) pa_nil))))))
      (pss_one (ps_ret (pe_ix ix_list (pv 5) (pe_callH HT (hr.mono (by decide)) rfl (pa_cons (pv 0) (pa_cons pe_int pa_nil))) (fun _ _ => rfl))))))))), ?_⟩
    refine ⟨6, rfl, by decide, by decide, fun D hD => ?_⟩
    have nDa : D ≠ a := dk.ne hD
    have nDl : D ≠ l := dk.ne' hD
    refine lc_range (n := 6) (fun j H' => ∃ ms : List Int, H' D = some (.lst (ms.map V.int)) ∧ ms.length ≤ j ∧ (∀ m ∈ ms, 0 ≤ m ∧ m ≤ 6) ∧ Deck H' a l ∧ Fr a H H') ⟨[], upd_same, Nat.le_refl _, (fun _ h => nomatch h), dk.put nDa nDl, fun b o e _ => by rw [upd_ne (ne_of_none e hD)]; exact e⟩ ?_ ?_
    · rintro j H1 hj ⟨ms, e1, l1, ok, dk1, f1⟩
      refine ⟨rfl, _, rfl, a, l, 2, rfl, dk1, by decide, by decide, fun c H2 c0 c1 dk2 f2 _ => ?_⟩
      have e2 := f2 _ _ e1 nDa
      refine ⟨rfl, _, rfl, ?_⟩
      refine ite2 (fun _ => ?_) (fun _ => ?_)
      · refine ⟨_, rfl, _, e2, by rw [List.length_map]; exact small1000 (by omega), ?_⟩
        refine ⟨ms ++ [(0 : Int) + (j : Int)], by rw [upd_same, List.map_append]; rfl, by rw [List.length_append]; exact Nat.succ_le_succ l1, fun m hm => ?_, dk2.put nDa nDl, fun b o e nb => ?_⟩
        · rcases List.mem_append.mp hm with h | h
          · exact ok m h
          · rw [List.mem_singleton.mp h]; omega
        · rw [upd_ne (ne_of_none e hD)]
          exact f2 _ _ (f1 _ _ e nb) nb
      · exact ⟨ms, e2, by omega, ok, dk2, f1.trans f2⟩
    rintro H1 ⟨ms, e1, l1, ok, dk1, f1⟩
    refine ⟨D, _, rfl, .inl ⟨SqL.of e1, fun t ht => ?_⟩⟩
    have s2 : Same H1 (upd H1 t (.tup (ms.map V.int))) := Same.new ht
    have e2 : (upd H1 t (.tup (ms.map V.int))) t = some (.tup (ms.map V.int)) := upd_same
    generalize upd H1 t (.tup (ms.map V.int)) = H2 at *
    have dk2 := dk1.keep s2
    have fine0 : ∀ e ∈ ms.map PyData.int, Fine 300 44 e := fun e he => by
      obtain ⟨m, hm, rfl⟩ := List.mem_map.mp he
      have h := ok m hm
      have : m.natAbs ≤ 6 := by omega
      exact fine_int (Nat.lt_of_le_of_lt this (by decide))
    have cD : Dt (· = a) H2 (.ref t) (.tuple (ms.map .int)) := dt_mk ⟨t, rfl, e2⟩ (deck_no_tup dk2)
    have lD : (ms.map PyData.int).length ≤ 6 := by rw [List.length_map]; exact l1
    generalize ms.map PyData.int = ds at *
    have lx : (ms.map V.int).length ≤ 6 := by rw [List.length_map]; exact l1
    refine ⟨_, rfl, _, rfl, _, (ms.map V.int).length, rfl, .inr ⟨_, sqT e2, rfl⟩, _, _, rfl, rfl, a, l, _, rfl, dk2, by omega, by omega, fun at' H3 a0 a1 dk3 f3 _ => ?_⟩
    refine fun vO H4 s4 nO => ?_
    have dk4 := dk3.keep s4
    obtain ⟨po, xo, rfl, npo, hpo, ro⟩ := dt_lst (nO (· = a) (deck_used dk3))
    have lxo : xo.length = 9 := ro.len
    refine ⟨_, rfl, a, l, 9, rfl, dk4, by decide, by decide, fun jo H5 o0 o1 dk5 f5 _ => ?_⟩
    have go : xo[jo.toNat]? = some (xo[jo.toNat]'(by omega)) := List.getElem?_eq_getElem (by omega)
    obtain ⟨dO, atO, hO⟩ := (ro.fr (FrO.fr f5)).get go
    have fineO : Fine 300 44 dO := (odd9_fine dO (List.mem_of_getElem? atO)).mono (by decide) (by decide)
    generalize xo[jo.toNat]'(by omega) = vo at *
    refine ⟨po, _, _, _, rfl, rfl, SqL.of (f5 _ _ hpo npo), at_of (j := jo.toNat) (by omega) go, ?_⟩
    have f25 : Fr a H2 H5 := f3.trans ((Fr.same s4).trans f5)
    have c5 := cD.fr (FrO.fr f25)
    have us : ∀ {Hx : Hp}, Same H5 Hx → Used (· = a) Hx := fun s => deck_used (dk5.keep s)
    have ex : ∀ {Hx : Hp}, Same H5 Hx → Hx t = some (.tup (ms.map V.int)) := fun s => s _ _ (f25 _ _ e2 (fun z => deck_no_tup dk2 t _ z e2))
    refine ⟨_, rfl, _, rfl, t, _, rfl, sqT (ex (Same.refl _)), fun p1 hp1 => ?_⟩
    have s6 : Same H5 (upd H5 p1 (.tup (ms.map V.int).reverse)) := Same.new hp1
    have d1 : Dt (· = a) (upd H5 p1 (.tup (ms.map V.int).reverse)) (.ref p1) (.tuple ds.reverse) := by
      obtain ⟨t', xs', e', _, h', r'⟩ := dt_tup c5
      cases e'
      rw [ex (Same.refl _)] at h'
      cases h'
      exact .tup ((us (Same.refl _)).new hp1) upd_same ((dtAll_rev r').fr (FrO.same s6))
    generalize upd H5 p1 (.tup (ms.map V.int).reverse) = H6 at *
    refine ⟨_, rfl, t, _, rfl, .inr (sqT (ex s6)), fun p2 hp2 => ?_⟩
    have s7 : Same H6 (upd H6 p2 (.lst (ms.map V.int))) := Same.new hp2
    have d2 : Dt (· = a) (upd H6 p2 (.lst (ms.map V.int))) (.ref p2) (.list ds) := by
      obtain ⟨t', xs', e', _, h', r'⟩ := dt_tup (c5.fr (FrO.same s6))
      cases e'
      rw [ex s6] at h'
      cases h'
      exact .lst ((us s6).new hp2) upd_same (r'.fr (FrO.same s7))
    generalize upd H6 p2 (.lst (ms.map V.int)) = H7 at *
    have s57 := s6.trans s7
    refine ⟨_, rfl, _, rfl, _, rfl, some_D (c5.fr (FrO.same s57)) (us s57) fun v1 H8 es1 s8 h1 m1 n1 => ?_⟩
    have s58 := s57.trans s8
    refine ⟨_, rfl, _, rfl, _, rfl, _, rfl, _, _, rfl, rfl, _, rfl, some_D (c5.fr (FrO.same s58)) (us s58) fun v2 H9 es2 s9 h2 m2 n2 => ?_⟩
    have s59 := s58.trans s9
    refine cat_D (h1.fr (FrO.same s9)) h2 (us s59) (by omega) fun v3 HA sA h3 => ?_
    have s5A := s59.trans sA
    refine ⟨_, rfl, _, rfl, _, rfl, ?_⟩
    dsimp only [tNoPart]
    refine some_D (c5.fr (FrO.same s5A)) (us s5A) fun v4 HB es4 sB h4 m4 n4 => ?_
    have s5B := s5A.trans sB
    refine cat_D (h3.fr (FrO.same sB)) h4 (us s5B) (by rw [List.length_append]; omega) fun v5 HC sC h5 => ?_
    have s5C := s5B.trans sC
    refine ⟨_, rfl, _, rfl, _, rfl, some_D (c5.fr (FrO.same s5C)) (us s5C) fun v6 HD' es6 sD h6 m6 n6 => ?_⟩
    have s5D := s5C.trans sD
    have hO5 : ∀ {Hx : Hp}, Same H5 Hx → Dt (· = a) Hx vo dO := fun s => hO.fr (FrO.same s)
    refine ⟨_, rfl, ?_⟩
    dsimp only [tNil]
    refine ⟨(by show 1 ≤ sizeLine; decide), fun p7 hp7 => ?_⟩
    have sE : Same HD' (upd HD' p7 (.tup [vo])) := Same.new hp7
    have h7 : Dt (· = a) (upd HD' p7 (.tup [vo])) (.ref p7) (.tuple [dO]) := .tup ((us s5D).new hp7) upd_same (.cons ((hO5 s5D).fr (FrO.same sE)) .nil)
    generalize upd HD' p7 (.tup [vo]) = HE at *
    have s5E := s5D.trans sE
    refine cat_D (h6.fr (FrO.same sE)) h7 (us s5E) (by simp only [List.length_singleton]; omega) fun v8 HF sF h8 => ?_
    have s5F := s5E.trans sF
    refine ⟨_, rfl, _, rfl, _, _, rfl, rfl, _, rfl, ?_⟩
    dsimp only [tNoPart]
    refine some_D (c5.fr (FrO.same s5F)) (us s5F) fun v9 HG es9 sG h9 m9 n9 => ?_
    have s5G := s5F.trans sG
    refine cat_D (h8.fr (FrO.same sG)) h9 (us s5G) (by simp only [List.length_append, List.length_singleton]; omega) fun vX HH sH hX => ?_
    have s5H := s5G.trans sH
    refine ⟨(by show 5 ≤ sizeLine; decide), fun q1 hq1 => ?_⟩
    have sI : Same HH (upd HH q1 (.lst [.ref t, .ref p1, .ref p2, v5, vX])) := Same.new hq1
    have eI : (upd HH q1 (.lst [.ref t, .ref p1, .ref p2, v5, vX])) q1 = some (.lst [.ref t, .ref p1, .ref p2, v5, vX]) := upd_same
    generalize upd HH q1 (.lst [.ref t, .ref p1, .ref p2, v5, vX]) = HI at *
    have s5I := s5H.trans sI
    have r5 : DtAll (· = a) HI [.ref t, .ref p1, .ref p2, v5, vX] [.tuple ds, .tuple ds.reverse, .list ds, .tuple ((es1 ++ es2) ++ es4), .tuple ((es6 ++ [dO]) ++ es9)] :=
      .cons (c5.fr (FrO.same s5I)) (.cons (d1.fr (FrO.same (s7.trans (s8.trans (s9.trans (sA.trans (sB.trans (sC.trans (sD.trans (sE.trans (sF.trans (sG.trans (sH.trans sI)))))))))))))
        (.cons (d2.fr (FrO.same (s8.trans (s9.trans (sA.trans (sB.trans (sC.trans (sD.trans (sE.trans (sF.trans (sG.trans (sH.trans sI))))))))))))
        (.cons (h5.fr (FrO.same (sD.trans (sE.trans (sF.trans (sG.trans (sH.trans sI))))))) (.cons (hX.fr (FrO.same sI)) .nil))))
    refine ⟨_, rfl, _, rfl, _, rfl, _, rfl, some_D (c5.fr (FrO.same s5I)) (us s5I) fun w1 HJ fs1 sJ g1 k1' l1' => ?_⟩
    have s5J := s5I.trans sJ
    refine ⟨_, rfl, ?_⟩
    dsimp only [tNil]
    refine ⟨(by show 1 ≤ sizeLine; decide), fun p8 hp8 => ?_⟩
    have sK : Same HJ (upd HJ p8 (.tup [vo])) := Same.new hp8
    have g2 : Dt (· = a) (upd HJ p8 (.tup [vo])) (.ref p8) (.tuple [dO]) := .tup ((us s5J).new hp8) upd_same (.cons ((hO5 s5J).fr (FrO.same sK)) .nil)
    generalize upd HJ p8 (.tup [vo]) = HK at *
    have s5K := s5J.trans sK
    refine cat_D (g1.fr (FrO.same sK)) g2 (us s5K) (by simp only [List.length_singleton]; omega) fun w3 HL sL g3 => ?_
    have s5L := s5K.trans sL
    refine ⟨_, rfl, _, rfl, _, rfl, ?_⟩
    dsimp only [tNoPart]
    refine some_D (c5.fr (FrO.same s5L)) (us s5L) fun w4 HM fs4 sM g4 k4' l4' => ?_
    have s5M := s5L.trans sM
    refine cat_D (g3.fr (FrO.same sM)) g4 (us s5M) (by simp only [List.length_append, List.length_singleton]; omega) fun w5 HN sN g5 => ?_
    have s5N := s5M.trans sN
    have dkN := dk5.keep s5N
    refine ⟨_, rfl, a, l, rfl, dkN, fun w6 d6 HP fv6 fi6 dkP fP => ?_⟩
    have hw6 := fv6 (· = a) rfl (deck_used dkN)
    refine ⟨_, rfl, (by show 3 ≤ sizeLine; decide), fun q2 hq2 => ?_⟩
    have sQ : Same HP (upd HP q2 (.lst [w5, w6, .ref t])) := Same.new hq2
    have eQ : (upd HP q2 (.lst [w5, w6, .ref t])) q2 = some (.lst [w5, w6, .ref t]) := upd_same
    generalize upd HP q2 (.lst [w5, w6, .ref t]) = HQ at *
    have nq1 : q1 ≠ a := fun e => by
      obtain ⟨ys', y⟩ := (dk5.keep s5H).is
      rw [← e, hq1] at y
      cases y
    have sIN : Same HI HN := sJ.trans (sK.trans (sL.trans (sM.trans sN)))
    have e1Q := sQ _ _ (fP _ _ (sIN _ _ eI) nq1)
    refine ⟨_, _, _, _, rfl, rfl, e1Q, eQ, (by show 5 + 3 ≤ sizeLine; decide), fun q3 hq3 => ?_⟩
    have sR : Same HQ (upd HQ q3 (.lst ([.ref t, .ref p1, .ref p2, v5, vX] ++ [w5, w6, .ref t]))) := Same.new hq3
    have eR : (upd HQ q3 (.lst ([.ref t, .ref p1, .ref p2, v5, vX] ++ [w5, w6, .ref t]))) q3 = some (.lst ([.ref t, .ref p1, .ref p2, v5, vX] ++ [w5, w6, .ref t])) := upd_same
    generalize upd HQ q3 (.lst ([.ref t, .ref p1, .ref p2, v5, vX] ++ [w5, w6, .ref t])) = HR at *
    have foNR : FrO (· = a) HN HR := (FrO.fr fP).trans (FrO.same (sQ.trans sR))
    have foPR : FrO (· = a) HP HR := FrO.same (sQ.trans sR)
    have rR : DtAll (· = a) HR ([.ref t, .ref p1, .ref p2, v5, vX] ++ [w5, w6, .ref t]) ([.tuple ds, .tuple ds.reverse, .list ds, .tuple ((es1 ++ es2) ++ es4), .tuple ((es6 ++ [dO]) ++ es9)] ++ [.tuple ((fs1 ++ [dO]) ++ fs4), d6, .tuple ds]) :=
      ((r5.fr (FrO.same sIN)).fr foNR).append (.cons (g5.fr foNR) (.cons (hw6.fr foPR) (.cons ((c5.fr (FrO.same s5N)).fr foNR) .nil)))
    have dkQ := dkP.keep sQ
    have dkR := dkQ.keep sR
    have nq3 : q3 ≠ a := fun e => by
      obtain ⟨ys', y⟩ := dkQ.is
      rw [← e, hq3] at y
      cases y
    refine ⟨_, rfl, _, rfl, a, l, 8, rfl, dkR, by decide, by decide, fun jt HS j0 j1 dkS fS _ => ?_⟩
    have jl : jt.toNat < ([.ref t, .ref p1, .ref p2, v5, vX] ++ [w5, w6, .ref t] : List V).length := by show jt.toNat < 8; omega
    obtain ⟨dS, atS, hS⟩ := (rR.fr (FrO.fr fS)).get (List.getElem?_eq_getElem jl)
    refine ⟨q3, _, _, _, rfl, rfl, SqL.of (fS _ _ eR nq3), at_of (j := jt.toNat) (by omega) (List.getElem?_eq_getElem jl), ?_⟩
    have fHS : Fr a H HS := f1.trans ((Fr.same s2).trans (f25.trans ((Fr.same s5N).trans (fP.trans ((Fr.same (sQ.trans sR)).trans fS)))))
    refine k _ dS HS hS ?_ dkS fHS
    have fin : ∀ {es : List PyData}, (∀ e ∈ es, e ∈ ds) → ∀ e ∈ es, Fine 300 44 e := fun h e he => fine0 e (h e he)
    have app : ∀ {xs ys : List PyData}, (∀ e ∈ xs, Fine 300 44 e) → (∀ e ∈ ys, Fine 300 44 e) → ∀ e ∈ xs ++ ys, Fine 300 44 e := fun h1 h2 e he => (List.mem_append.mp he).elim (h1 e) (h2 e)
    have one : ∀ e ∈ [dO], Fine 300 44 e := fun e he => by rw [List.mem_singleton.mp he]; exact fineO
    have m := List.mem_of_getElem? atS
    simp only [List.cons_append, List.nil_append, List.mem_cons, List.not_mem_nil, or_false] at m
    rcases m with rfl | rfl | rfl | rfl | rfl | rfl | rfl | rfl
    · exact Good.tup fine0 (by omega)
    · exact Good.tup (fun e he => fine0 e (List.mem_reverse.mp he)) (by rw [List.length_reverse]; omega)
    · exact Good.lst fine0 (by omega)
    · exact Good.tup (app (app (fin m1) (fin m2)) (fin m4)) (by simp only [List.length_append]; omega)
    · exact Good.tup (app (app (fin m6) one) (fin m9)) (by simp only [List.length_append, List.length_singleton]; omega)
    · exact Good.tup (app (app (fin k1') one) (fin k4')) (by simp only [List.length_append, List.length_singleton]; omega)
    · exact Good.of fi6
    · exact Good.tup fine0 (by omega)
end
end Xci

namespace Xci
open PySem L2
def spLaw (K : PySem.W.Frag) : Sp := fun vs H Q _ => ∃ (a : Addr) (ns : List Int), vs = [.ref a] ∧ SqL K H a (ns.map V.int) ∧ ns.length ≤ 63 ∧ ∀ H' : Hp, Q (.bl true) H'
theorem BookSt.fr {C a ld : Addr} {H H' : Hp} {b : Addr} {man : Str} {ws : List Int} {es : List Ent} (h : BookSt C H b man ws es) (d : Deck H a ld) (f : Fr a H H') : BookSt C H' b man ws es := by
  obtain ⟨⟨p, wt, ys, ⟨dx, a1⟩, a2, a3, a4⟩, b1, b2⟩ := h
  obtain ⟨zs, hz⟩ := d.is
  have t := d.tfr f
  exact ⟨⟨p, wt, ys, ⟨dx, f _ _ a1 (ne_of a1 hz (by intro z; cases z))⟩, t _ _ a2, Ents.keep t a3, a4.keep t⟩, b1, b2⟩
theorem man_four {d : Int} (h0 : 0 ≤ d) (h1 : d < 4) : ∃ (j : Nat) (man : Str), d = (j : Int) ∧ ([.str "row", .str "within", .str "weights", .str "most"] : List V)[j]? = some (.str man) ∧ Man man := by
  have : d = 0 ∨ d = 1 ∨ d = 2 ∨ d = 3 := by omega
  rcases this with e | e | e | e
  · exact ⟨0, "row", e, rfl, .inl rfl⟩
  · exact ⟨1, "within", e, rfl, .inr (.inl rfl)⟩
  · exact ⟨2, "weights", e, rfl, .inr (.inr (.inl rfl))⟩
  · exact ⟨3, "most", e, rfl, .inr (.inr (.inr rfl))⟩
theorem fam_four {cs : List (List Int)} (p : cs.Perm (lots [0, 1, 2, 3])) : FamOk 4 cs := by
  have e : ([0, 1, 2, 3] : List Int) = rng 4 := by decide
  rw [e] at p
  have l := p.length_eq
  rw [lots_len, rng_len] at l
  have l16 : cs.length = 16 := l
  refine ⟨by decide, by decide, fun z => ?_, by omega, p.nodup_iff.mpr (lots_nd (rng_ok 4).nd), fun c hc => (rng_ok 4).sub (lots_sub (p.subset hc))⟩
  rw [z] at l16
  cases l16
/-- a cell behind the number of its marks, below 0 -/
def PairV (H : Hp) (v : V) (c : List Int) : Prop := ∃ u, Tup H v [.int (-(c.length : Int)), u] ∧ Xci.Mk H u c
theorem PairV.keep {H H' : Hp} {v : V} {c : List Int} (f : TFr H H') (h : PairV H v c) : PairV H' v c := by
  obtain ⟨u, a, b⟩ := h
  exact ⟨u, a.keep f, Tup.keep f b⟩
abbrev Pairs (H : Hp) (vs : List V) (cs : List (List Int)) : Prop := Paired (PairV H) vs cs
theorem pairs_keep {H H' : Hp} {vs : List V} {cs : List (List Int)} (f : TFr H H') (h : Pairs H vs cs) : Pairs H' vs cs := Paired.mapP h fun _ _ q => q.keep f
def pairD (c : List Int) : PyData := .tuple [.int (-(c.length : Int)), mkD c]
theorem dt_pairs {N : Out} {H : Hp} (n : ∀ p xs, N p → H p ≠ some (.tup xs)) : ∀ {vs : List V} {cs : List (List Int)}, Pairs H vs cs → DtAll N H vs (cs.map pairD)
  | _, _, .nil => .nil
  | _, _, .cons h r => by
    obtain ⟨u, ⟨p, rfl, hp⟩, mu⟩ := h
    exact .cons (.tup (fun z => n p _ z hp) hp (.cons (.int _) (.cons (dt_mk mu n) .nil))) (dt_pairs n r)
theorem alike_pairs (cs : List (List Int)) : PySem.W.AllAlike (cs.map pairD) := PySem.W.AllAlike.of fun b b' => by
  have q := PySem.W.alike_ints b b'
  simp only [pairD, mkD, PySem.W.alike, PySem.W.alikeAll, q, Bool.and_self]
theorem sortable_pairs (cs : List (List Int)) : PySem.W.Sortable (cs.map pairD) := PySem.W.Sortable.tuples fun b => ⟨_, _, rfl⟩
theorem depth_pairs (cs : List (List Int)) : ∀ d ∈ cs.map pairD, d.depth ≤ 60 := fun d hd => by
  obtain ⟨c, _, rfl⟩ := List.mem_map.mp hd
  have q := PySem.W.depth_ints c
  simp only [pairD, mkD, PyData.depth, PyData.depthAll, q]
  decide
def names14 : List Str := ["a", "b", "c", "d", "e", "f", "g", "h", "i", "j", "k", "l", "m", "n"]
theorem names_ok : ∀ z ∈ names14, WordOk z := fun z hz => by
  have q := List.all_eq_true.mp (show names14.all wordB = true by decide +kernel) z hz
  exact wordB_ok.mp q
theorem strs_perm {ys : List V} {zs : List Str} (p : ys.Perm (zs.map V.str)) : ∃ us : List Str, ys = us.map V.str ∧ us.Perm zs := by
  have q : Paired (fun (v : V) (z : Str) => v = .str z) (zs.map V.str) zs := by
    clear p
    induction zs with
    | nil => exact .nil
    | cons z r ih => exact .cons rfl ih
  obtain ⟨us, h, pu⟩ := Paired.perm p q
  refine ⟨us, ?_, pu⟩
  clear p q pu
  induction h with
  | nil => rfl
  | cons a _ ih => rw [a, ih]; rfl
theorem firstB_next {fs : List (Option Str)} (j : Nat) : (List.range (j + 1)).filter (isFirst fs) = (List.range j).filter (isFirst fs) ++ (if isFirst fs j = true then [j] else []) := by
  rw [List.range_succ, List.filter_append, List.filter_cons, List.filter_nil]
theorem first_len {fs : List (Option Str)} (j : Nat) : ((List.range j).filter (isFirst fs)).length ≤ j := by
  have h := List.length_filter_le (isFirst fs) (List.range j)
  rwa [List.length_range] at h
theorem inV_take (z : Str) (fs : List (Option Str)) : inV (.str z) (fs.map formV) = decide (some z ∈ fs) := forms_inV z fs
/-- what stands in the first part's turns -/
structure Set17 (CB bk : Addr) (man : Str) (ws : List Int) (es : List Ent) (a l pc : Addr) (cy : List V) (cells : List (List Int)) (H : Hp) : Prop where
  bo : BookSt CB H bk man ws es
  dk : Deck H a l
  cp : H pc = some (.tup cy)
  cm : Mks H cy cells
section
variable {P : Program} {w : World} {K : PySem.W.Frag} {mg : Str → Option Value} {base : Heap}
abbrev sLaw : Stmt := top 69
theorem scLaw : FnScope ["script", "deck", "cells", "turn", "manner", "weights", "book", "thing", "shown", "due", "many", "order", "cell", "names", "entries", "at", "family", "told", "count"] ["script"] (defScope sLaw) := ⟨rfl, rfl, rfl, by decide +kernel, rfl, by decide +kernel, by decide +kernel⟩
set_option maxHeartbeats 8000000 in
theorem ok_law {f CF CB : Addr} {fd : FuncData} (F : Fun K "law" "law" sLaw f fd) (T : Txt mg) (TR : mg "repr" = none) (hS : ∃ o, base.get? sysModules = some o) (HT : Has P w K mg base "_law_take" ["deck", "many"] 1 spTake) (HD : Has P w K mg base "_law_deck" ["script"] 1 (spDeck K)) (HL : Has P w K mg base "_law_lots" ["items"] 1 (spLots K)) (HM : Has P w K mg base "_law_mixed" ["deck", "things"] 2 (spMixed K))
    (HWs : Has P w K mg base "_law_words" ["deck", "most"] 3 spWords) (HEn : Has P w K mg base "_law_entries" ["deck", "cells", "words", "most"] 3 (spEntries K)) (HWt : Has P w K mg base "_law_weights" ["deck"] 2 spWeights) (HTh : Has P w K mg base "_law_thing" ["deck"] 4 spThing) (HMk : Has P w K mg base "_law_are_marks" ["thing", "many"] 2 spMarksD)
    (HTo : Has P w K mg base "_law_told" ["which", "book", "thing"] 8 (spTold CF CB)) (HLF : Has P w K mg base "_law_form_at" ["manner", "entries", "weights", "cell"] 5 (spLawHeard K)) (HFm : HasC P w K mg base "Family" CF ["self", "many", "cells"] 5 (spFam CF)) (HBk : HasC P w K mg base "Book" CB ["self", "manner", "entries", "weights"] 6 (spBook CB)) : FnG P w K mg base 9 f fd ["script"] (spLaw K) := by
  refine okG F scLaw (fun vs H Q E h => ?_) (fun cdv A outer s H vs Q E hg hr h => ?_)
  · obtain ⟨z, ns, rfl, _⟩ := h
    rfl
  · obtain ⟨z, ns, rfl, hz, hl, k⟩ := h
    refine ⟨_, (pss_cons (ps_set (i := 1) scLaw.nd rfl (by first | exact Or.inl rfl | exact Or.inr rfl) (pe_callH HD (hr.mono (by decide)) rfl (pa_cons (pv 0) pa_nil)))
      (pss_cons (ps_set (i := 2) scLaw.nd rfl (by first | exact Or.inl rfl | exact Or.inr rfl) (pe_callTy call_tuple_of rfl T.tuple (by decide +kernel) (pa_cons (pe_callH HM (hr.mono (by decide)) rfl (pa_cons (pv 1) (pa_cons (pe_callH HL (hr.mono (by decide)) rfl (pa_cons (pe_tup (pa_cons pe_int (pa_cons pe_int (pa_cons pe_int (pa_cons pe_int pa_nil))))) pa_nil)) pa_nil))) pa_nil)))
      (pss_cons (ps_for PassesOwn.never rfl (pi_range1 rfl T.range (pa_cons pe_int pa_nil)) (pg_name (i := 3) scLaw.nd rfl (by first | exact Or.inl rfl | exact Or.inr rfl)) (pss_cons (ps_set (i := 4) scLaw.nd rfl (by first | exact Or.inl rfl | exact Or.inr rfl) (pe_ix ix_tup (pe_tup (pa_cons pe_str (pa_cons pe_str (pa_cons pe_str (pa_cons pe_str pa_nil))))) (pe_callH HT (hr.mono (by decide)) rfl (pa_cons (pv 1) (pa_cons pe_int pa_nil))) (fun _ _ => rfl)))
      (pss_cons (ps_set (i := 5) scLaw.nd rfl (by first | exact Or.inl rfl | exact Or.inr rfl) pe_non)
      (C8.pss_cut (ps_if (pt_cmpR op_eq (pv 4) pe_str (nomark _)) (pss_one (ps_set (i := 5) scLaw.nd rfl (by first | exact Or.inl rfl | exact Or.inr rfl) (pe_callH HWt (hr.mono (by decide)) rfl (pa_cons (pv 1) pa_nil)))) pss_nil)
      (pss_cons (ps_set (i := 6) scLaw.nd rfl (by first | exact Or.inl rfl | exact Or.inr rfl) (pe_makeH HBk (hr.mono (by decide)) rfl (pa_cons (pv 4) (pa_cons (pe_callH HEn (hr.mono (by decide)) rfl (pa_cons (pv 1) (pa_cons (pv 2) (pa_cons (pe_callH HWs (hr.mono (by decide)) rfl (pa_cons (pv 1) (pa_cons pe_int pa_nil))) (pa_cons pe_int pa_nil))))) (pa_cons (pv 5) pa_nil)))))
      (pss_cons (ps_set (i := 7) scLaw.nd rfl (by first | exact Or.inl rfl | exact Or.inr rfl) (pe_callH HTh (hr.mono (by decide)) rfl (pa_cons (pv 1) pa_nil)))
      (pss_cons (ps_set (i := 8) scLaw.nd rfl (by first | exact Or.inl rfl | exact Or.inr rfl) (pe_callB (call_repA hS hg (hu64 hr)) rfl TR (by decide +kernel) (pa_cons (pv 7) pa_nil)))
      (pss_cons (ps_set (i := 9) scLaw.nd rfl (by first | exact Or.inl rfl | exact Or.inr rfl) (pe_ix ix_list (pe_lst (pa_cons pe_str (pa_cons pe_str pa_nil))) (pe_callTy call_int1 rfl T.int (by decide +kernel) (pa_cons (pe_callH HMk (hr.mono (by decide)) rfl (pa_cons (pv 7) (pa_cons pe_int pa_nil))) pa_nil)) (fun _ _ => rfl)))
      (pss_one (ps_if (PW.pt (pw_or (pt_cmpR op_ne (pe_callH HTo (hr.mono (by decide)) rfl (pa_cons pe_int (pa_cons (pv 6) (pa_cons (pv 7) pa_nil)))) (pv 9) (nomark _)) (pw_or (pt_cmpR op_ne (pe_callH HTo (hr.mono (by decide)) rfl (pa_cons pe_int (pa_cons (pv 6) (pa_cons (pv 7) pa_nil)))) (pv 9) (nomark _)) (pw_or1 (pt_cmpR op_ne (pe_callB (call_repA hS hg (hu64 hr)) rfl TR (by decide +kernel) (pa_cons (pv 7) pa_nil)) (pv 8) (nomark _)))))) (pss_one (ps_ret pe_bl)) pss_nil))))))))))
      (pss_cons (ps_set (i := 10) scLaw.nd rfl (by first | exact Or.inl rfl | exact Or.inr rfl) (pe_op op_add pe_int (pe_callH HT (hr.mono (by decide)) rfl (pa_cons (pv 1) (pa_cons pe_int pa_nil)))))
      (pss_cons (ps_set (i := 11) scLaw.nd rfl (by first | exact Or.inl rfl | exact Or.inr rfl) (pe_slice sl_list (pe_callB (cr_sortedD (hu64 hr)) rfl T.sorted (by decide +kernel) (pa_cons (pe_lc (own := [("cell", 12)]) rfl scLaw.nd (pi_tup (pv 2)) (blkOk_by (N := ["script", "deck", "cells", "turn", "manner", "weights", "book", "thing", "shown", "due", "many", "order", "cell", "names", "entries", "at", "family", "told", "count"]) (sc := defScope sLaw) (by decide +kernel)) (fun _ _ _ _ _ => (pg_name (i := 12) scLaw.nd rfl (by first | exact Or.inl rfl | exact Or.inr rfl))) (fun _ _ _ _ _ => pts_nil) (fun _ _ _ _ _ => (pe_tup (pa_cons (pe_un un_neg (pe_callB (show CallR _ _ (rLen K) from call_lenK) rfl T.len PySem.boot_len (pa_cons (pv 12) pa_nil))) (pa_cons (pv 12) pa_nil))))) pa_nil)) po_none (po_some (pv 10))))
      (pss_cons (ps_set (i := 13) scLaw.nd rfl (by first | exact Or.inl rfl | exact Or.inr rfl) (pe_callH HM (hr.mono (by decide)) rfl (pa_cons (pv 1) (pa_cons (pe_lst (pa_cons pe_str (pa_cons pe_str (pa_cons pe_str (pa_cons pe_str (pa_cons pe_str (pa_cons pe_str (pa_cons pe_str (pa_cons pe_str (pa_cons pe_str (pa_cons pe_str (pa_cons pe_str (pa_cons pe_str (pa_cons pe_str (pa_cons pe_str pa_nil))))))))))))))) pa_nil))))
      (pss_cons (ps_set (i := 14) scLaw.nd rfl (by first | exact Or.inl rfl | exact Or.inr rfl) (pe_callTy call_tuple_of rfl T.tuple (by decide +kernel) (pa_cons (pe_lc (own := [("at", 15)]) rfl scLaw.nd (pi_range1 rfl T.range (pa_cons (pv 10) pa_nil)) (blkOk_by (N := ["script", "deck", "cells", "turn", "manner", "weights", "book", "thing", "shown", "due", "many", "order", "cell", "names", "entries", "at", "family", "told", "count"]) (sc := defScope sLaw) (by decide +kernel)) (fun _ _ _ _ _ => (pg_name (i := 15) scLaw.nd rfl (by first | exact Or.inl rfl | exact Or.inr rfl))) (fun _ _ _ _ _ => pts_nil) (fun _ _ _ _ _ => (pe_tup (pa_cons (pe_ix (show IxR _ (rIxT K) from ix_tup) (pe_ix (show IxR _ (rIxL K) from ix_list) (pv 11) (pv 15) (fun _ _ => rfl)) pe_int (fun _ _ => rfl)) (pa_cons (pe_ix (show IxR _ (rIxL K) from ix_list) (pv 13) (pv 15) (fun _ _ => rfl)) pa_nil))))) pa_nil)))
      (pss_cons (ps_set (i := 16) scLaw.nd rfl (by first | exact Or.inl rfl | exact Or.inr rfl) (pe_makeH HFm (hr.mono (by decide)) rfl (pa_cons pe_int (pa_cons (pv 2) pa_nil))))
      (pss_cons (ps_for PassesOwn.never rfl (pi_tup (pe_tup (pa_cons pe_str (pa_cons pe_str (pa_cons pe_str pa_nil))))) (pg_name (i := 4) scLaw.nd rfl (by first | exact Or.inl rfl | exact Or.inr rfl)) (pss_cons (ps_set (i := 17) scLaw.nd rfl (by first | exact Or.inl rfl | exact Or.inr rfl) (pe_lc (own := [("cell", 12)]) rfl scLaw.nd (pi_tup (pv 2)) (blkOk_by (N := ["script", "deck", "cells", "turn", "manner", "weights", "book", "thing", "shown", "due", "many", "order", "cell", "names", "entries", "at", "family", "told", "count"]) (sc := defScope sLaw) (by decide +kernel)) (fun _ _ _ _ _ => (pg_name (i := 12) scLaw.nd rfl (by first | exact Or.inl rfl | exact Or.inr rfl))) (fun _ _ _ _ _ => pts_nil) (fun _ _ _ _ _ => (pe_callH HLF (hr.mono (by decide)) rfl (pa_cons (pv 4) (pa_cons (pv 14) (pa_cons pe_non (pa_cons (pv 12) pa_nil))))))))
      (pss_cons (ps_set (i := 18) scLaw.nd rfl (by first | exact Or.inl rfl | exact Or.inr rfl) (pe_callB call_len rfl T.len PySem.boot_len (pa_cons (pe_lc (own := [("at", 15)]) rfl scLaw.nd (pi_range1 rfl T.range (pa_cons (pe_callB call_len rfl T.len PySem.boot_len (pa_cons (pv 17) pa_nil)) pa_nil)) (blkOk_by (N := ["script", "deck", "cells", "turn", "manner", "weights", "book", "thing", "shown", "due", "many", "order", "cell", "names", "entries", "at", "family", "told", "count"]) (sc := defScope sLaw) (by decide +kernel)) (fun _ _ _ _ _ => (pg_name (i := 15) scLaw.nd rfl (by first | exact Or.inl rfl | exact Or.inr rfl))) (fun _ _ _ _ _ => pts_one (PW.pt (pw_and (pt_cmpR op_notN (pe_ix (show IxR _ (rIxL K) from ix_list) (pv 17) (pv 15) (fun _ _ => rfl)) pe_non (nomark _)) (pw_and1 (pt_cmpR (show OpR _ _ (rIn K true) from op_notIn_seq) (pe_ix (show IxR _ (rIxL K) from ix_list) (pv 17) (pv 15) (fun _ _ => rfl)) (pe_slice (show SlR _ (rSlL K) from sl_list) (pv 17) po_none (po_some (pv 15))) (by with_unfolding_all rfl)))))) (fun _ _ _ _ _ => (pv 15))) pa_nil)))
      (pss_one (ps_if (pt_cmpR op_ne (pe_callH HTo (hr.mono (by decide)) rfl (pa_cons pe_int (pa_cons (pe_makeH HBk (hr.mono (by decide)) rfl (pa_cons (pv 4) (pa_cons (pv 14) (pa_cons pe_non pa_nil)))) (pa_cons (pv 16) pa_nil)))) (pe_ix ix_list (pe_lst (pa_cons pe_str (pa_cons pe_str pa_nil))) (pe_callTy call_int1 rfl T.int (by decide +kernel) (pa_cons (pe_cmpR op_gt (pv 18) pe_int (nomark _)) pa_nil)) (fun _ _ => rfl)) (nomark _)) (pss_one (ps_ret pe_bl)) pss_nil)))))
      (pss_one (ps_ret pe_bl))))))))))), ?_⟩
    refine ⟨_, rfl, z, ns, rfl, hz, hl, fun a l H1 dk1 s1 => ?_⟩
    refine ⟨_, rfl, (by show 4 ≤ sizeLine; decide), fun t ht => ?_⟩
    have et : (upd H1 t (.tup [.int 0, .int 1, .int 2, .int 3])) t = some (.tup [.int 0, .int 1, .int 2, .int 3]) := upd_same
    have s2 : Same H1 (upd H1 t (.tup [.int 0, .int 1, .int 2, .int 3])) := Same.new ht
    generalize upd H1 t (.tup [.int 0, .int 1, .int 2, .int 3]) = H2 at *
    refine ⟨t, [0, 1, 2, 3], rfl, sqT et, by decide, fun q ys H3 eq mk s3 hq => ?_⟩
    have dk3 := dk1.keep (s2.trans s3)
    have l3 : ys.length = 16 := by rw [Paired.length mk, lots_len]; rfl
    refine ⟨a, l, q, ys, rfl, dk3, .inl (SqL.of eq), by omega, fun q2 cy H4 pm eq2 hq2 dk4 f4 => ?_⟩
    obtain ⟨cells, mk4, pc4⟩ : ∃ cells, Mks H4 cy cells ∧ cells.Perm (lots [0, 1, 2, 3]) := Paired.perm pm (mk.keep (dk3.tfr f4))
    refine ⟨q2, cy, rfl, .inl ⟨SqL.of eq2, fun pc hpc => ?_⟩⟩
    have s5 : Same H4 (upd H4 pc (.tup cy)) := Same.new hpc
    have cp : (upd H4 pc (.tup cy)) pc = some (.tup cy) := upd_same
    have cm := mk4.keep (TFr.same s5)
    generalize upd H4 pc (.tup cy) = H5 at *
    have dk5 := dk4.keep s5
    have fok := fam_four pc4
    have l16 : cells.length = 16 := by rw [pc4.length_eq, lots_len]; rfl
    have lcy : cy.length = 16 := by rw [Paired.length cm, l16]
    have cok : ∀ c ∈ cells, MarksOk 6 c := fun c hc => (fok.ok c hc).le (by decide)
    have npc : pc ≠ a := fun e => deck_no_tup dk5 pc _ e cp
    clear dk1 dk3 dk4 mk4 eq eq2 mk et pc4 pm
    refine ⟨5, rfl, by decide, by decide, for_range (n := 5) (fun i σ H' => (∃ o3 o4 o5 o6 o7 o8 o9 : Option V, σ = [some (.ref z), some (.ref a), some (.ref pc), o3, o4, o5, o6, o7, o8, o9, none, none, none, none, none, none, none, none, none]) ∧ Deck H' a l ∧ H' pc = some (.tup cy) ∧ Mks H' cy cells) ⟨⟨none, none, none, none, none, none, none, rfl⟩, dk5, cp, cm⟩ ?_ ?_⟩
    · rintro i σ H2 hi ⟨⟨o3, o4, o5, o6, o7, o8, o9, rfl⟩, dk2, cp2, cm2⟩
      refine ⟨(by show 4 ≤ sizeLine; decide), fun t ht => ?_⟩
      have et : (upd H2 t (.tup [.str "row", .str "within", .str "weights", .str "most"])) t = some (.tup [.str "row", .str "within", .str "weights", .str "most"]) := upd_same
      have s3 : Same H2 (upd H2 t (.tup [.str "row", .str "within", .str "weights", .str "most"])) := Same.new ht
      generalize upd H2 t (.tup [.str "row", .str "within", .str "weights", .str "most"]) = H3 at *
      have dk3 := dk2.keep s3
      refine ⟨_, rfl, a, l, 4, rfl, dk3, by decide, by decide, fun d H4 d0 d1 dk4 f4 _ => ?_⟩
      obtain ⟨j, man, ej, en, hm⟩ := man_four d0 d1
      refine ⟨t, _, _, _, rfl, rfl, sqT (dk3.tfr f4 _ _ et), at_of ej en, ?_⟩
      have cp4 := f4 _ _ (s3 _ _ cp2) npc
      have cm4 : Mks H4 cy cells := (cm2.keep (TFr.same s3)).keep (dk3.tfr f4)
      refine ⟨fun σ' H5 => Deck H5 a l ∧ Fr a H4 H5 ∧ ∃ (wt : V) (ws : List Int), WtIs H5 man wt ws ∧ σ' = [some (.ref z), some (.ref a), some (.ref pc), some (.int ((0 : Int) + (i : Int))), some (.str man), some wt, o6, o7, o8, o9, none, none, none, none, none, none, none, none, none], ?_, ?_⟩
      · refine ⟨_, rfl, rfl, _, rfl, ?_⟩
        refine ite2 (fun is => ?_) (fun no => ?_)
        · have e : man = "weights" := V.str.inj (of_decide_eq_true is)
          exact ⟨_, rfl, a, l, rfl, dk4, fun v ws H9 mw wl wb hd9 f9 => ⟨hd9, f9, v, ws, .inr ⟨e, mw, wl, wb⟩, rfl⟩⟩
        · exact ⟨dk4, Fr.refl _ _, .non, [], .inl ⟨fun e => no (decide_eq_true (congrArg V.str e)), rfl⟩, rfl⟩
      rintro σ' H5 ⟨dk5, f5, wt, ws, hw5, rfl⟩
      have cp5 := f5 _ _ cp4 npc
      have cm5 : Mks H5 cy cells := cm4.keep (dk4.tfr f5)
      refine ⟨_, rfl, _, rfl, _, rfl, _, rfl, a, l, 5, rfl, dk5, by decide, by decide, fun qw zs H6 zne zl znd zok wq hqw dk6 f6 => ?_⟩
      have nqw : qw ≠ a := fun e => by
        obtain ⟨ys', y⟩ := dk5.is
        rw [← e, hqw] at y
        cases y
      have cp6 := f6 _ _ cp5 npc
      have cm6 : Mks H6 cy cells := cm5.keep (dk5.tfr f6)
      have hw6 := hw5.keep (dk5.tfr f6)
      refine ⟨a, l, pc, qw, cy, cells, zs, 6, rfl, dk6, npc, .inr cp6, cm6, fok.ne, by omega, cok, wq, nqw, zne, by omega, zok, by decide, by decide, fun pe ey es H7 ep em el eok dk7 f7 => ?_⟩
      have cp7 := f7 _ _ cp6 npc
      have cm7 : Mks H7 cy cells := cm6.keep (dk6.tfr f7)
      have hw7 := hw6.keep (dk6.tfr f7)
      refine ⟨_, rfl, ?_⟩
      intro bx dx nx ndx _
      refine made_book nx ndx hm hw7 ep em eok (by omega) fun H8 hb s8 => ⟨rfl, ?_⟩
      have dk8 := dk7.keep s8
      refine ⟨_, rfl, a, l, rfl, dk8, fun vt dt H9 tD good dk9 f9 => ?_⟩
      have hb9 := hb.fr dk8 f9
      have cp9 := f9 _ _ (s8 _ _ cp7) npc
      have cm9 : Mks H9 cy cells := (cm7.keep (TFr.same s8)).keep (dk8.tfr f9)
      have fine : Fine 390000 60 dt := good.fine.mono (by decide) (by decide)
      refine ⟨_, rfl, (· = a), vt, dt, rfl, tD, fine, ?_⟩
      refine ⟨(by show 2 ≤ sizeLine; decide), fun t2 ht2 => ?_⟩
      have st2 : Same H9 (upd H9 t2 (.lst [.str "cell", .str "let"])) := Same.new ht2
      have et2 : (upd H9 t2 (.lst [.str "cell", .str "let"])) t2 = some (.lst [.str "cell", .str "let"]) := upd_same
      generalize upd H9 t2 (.lst [.str "cell", .str "let"]) = HA at *
      refine ⟨_, rfl, (· = a), 6, vt, dt, rfl, tD.fr (FrO.same st2), good.few, fun HB sB => ?_⟩
      refine .inr ⟨_, rfl, ?_⟩
      have two : ([.str "cell", .str "let"] : List V)[(if cellD 6 dt = true then 1 else 0 : Nat)]? = some (.str (if cellD 6 dt = true then ("let" : Str) else ("cell" : Str))) := by cases cellD 6 dt <;> rfl
      have ix : (if cellD 6 dt = true then (1 : Int) else 0) = (((if cellD 6 dt = true then 1 else 0 : Nat)) : Int) := by split <;> rfl
      refine ⟨t2, _, _, _, rfl, rfl, SqL.of (sB _ _ et2), at_of (j := (if cellD 6 dt = true then 1 else 0 : Nat)) ix two, ?_⟩
      have s9B := st2.trans sB
      refine ⟨_, rfl, _, rfl, .inl ⟨(· = a), 0, bx, vt, dt, man, ws, es, rfl, .inl rfl, hb9.same s9B, hm, tD.fr (FrO.same s9B), fun HC sC => ?_⟩⟩
      refine ⟨_, rfl, rfl, _, rfl, ?_⟩
      refine ite2 (fun no => ?_) (fun _ => ?_)
      · exfalso
        simp at no
      have s9C := s9B.trans sC
      refine ⟨_, rfl, _, rfl, .inl ⟨(· = a), 1, bx, vt, dt, man, ws, es, rfl, .inr rfl, hb9.same s9C, hm, tD.fr (FrO.same s9C), fun HE sE => ?_⟩⟩
      refine ⟨_, rfl, rfl, _, rfl, ?_⟩
      refine ite2 (fun no => ?_) (fun _ => ?_)
      · exfalso
        simp at no
      have s9E := s9C.trans sE
      refine ⟨_, rfl, (· = a), vt, dt, rfl, tD.fr (FrO.same s9E), fine, ?_⟩
      refine ⟨_, rfl, rfl, _, rfl, ?_⟩
      refine ite2 (fun no => ?_) (fun _ => ?_)
      · exfalso
        simp at no
      exact ⟨⟨_, _, _, _, _, _, _, rfl⟩, dk9.keep s9E, s9E _ _ cp9, cm9.keep (TFr.same s9E)⟩
    · rintro σ H2 ⟨⟨o3, o4, o5, o6, o7, o8, o9, rfl⟩, dk2, cp2, cm2⟩
      refine ⟨_, rfl, a, l, 4, rfl, dk2, by decide, by decide, fun jm H3 j0 j1 dk3 f3 _ => ?_⟩
      obtain ⟨m, em, m11, m14⟩ : ∃ m : Nat, (11 : Int) + jm = (m : Int) ∧ 11 ≤ m ∧ m ≤ 14 := ⟨(11 + jm).toNat, by omega, by omega, by omega⟩
      refine ⟨_, _, rfl, rfl, ?_⟩
      have e2 : (fun (i j : Int) => V.int (i + j)) 11 jm = V.int (m : Int) := by show V.int (11 + jm) = _; rw [em]
      rw [e2]
      clear e2 em
      have cp3 := f3 _ _ cp2 npc
      have cm3 : Mks H3 cy cells := cm2.keep (dk2.tfr f3)
      refine ⟨_, rfl, pc, rfl, ⟨_, sqT cp3⟩, fun D hD => ?_⟩
      refine lc_tup (K := K) (a := pc) (xs := cy) (fun j H4 => ∃ zs : List V, Same H3 H4 ∧ H4 D = some (.lst zs) ∧ Pairs H4 zs (cells.take j)) ⟨[], Same.new hD, upd_same, .nil⟩ (fun j H4 _ ⟨_, e, _⟩ => sqT (e _ _ cp3)) ?_ ?_
      · rintro j y H4 hj ⟨zs, s4, e4, m4⟩
        have lj := (List.getElem?_eq_some_iff.mp hj).1
        obtain ⟨c1, hc, mc⟩ := Paired.get (cm3.keep (TFr.same s4)) hj
        have lz : zs.length ≤ 64 := by rw [Paired.length m4, List.length_take]; omega
        obtain ⟨pc1, rfl, hc1⟩ := mc
        refine ⟨rfl, _, rfl, _, _, rfl, .inr ⟨_, sqT hc1, rfl⟩, _, rfl, _, rfl, (by show 2 ≤ sizeLine; decide), fun q hq => ?_⟩
        have s5 : Same H4 (upd H4 q (.tup [.int (-(((c1.map V.int).length : Nat) : Int)), .ref pc1])) := Same.new hq
        have e5 : (upd H4 q (.tup [.int (-(((c1.map V.int).length : Nat) : Int)), .ref pc1])) q = some (.tup [.int (-(c1.length : Int)), .ref pc1]) := by rw [upd_same, List.length_map]
        generalize upd H4 q (.tup [.int (-(((c1.map V.int).length : Nat) : Int)), .ref pc1]) = H5 at *
        refine ⟨zs, s5 _ _ e4, small1000 (by omega), ?_⟩
        refine ⟨zs ++ [.ref q], fun b o h => by rw [upd_ne (ne_of_none h hD)]; exact s5 _ _ (s4 _ _ h), upd_same, ?_⟩
        have tf : TFr H5 (upd H5 D (.lst (zs ++ [.ref q]))) := TFr.lst (s5 _ _ e4)
        rw [List.take_add_one, hc]
        exact Paired.app (pairs_keep tf (pairs_keep (TFr.same s5) m4)) (Paired.one ⟨_, ⟨q, rfl, tf _ _ e5⟩, pc1, rfl, tf _ _ (s5 _ _ hc1)⟩)
      rintro H4 ⟨zs, s4, e4, m4⟩
      rw [lcy, ← l16, List.take_length] at m4
      have dk4 := dk3.keep s4
      have lz : zs.length = 16 := by rw [Paired.length m4, l16]
      dsimp only [tNil]
      refine ⟨D, zs, fun _ => False, cells.map pairD, rfl, SqL.of e4, dt_pairs (fun _ _ h => h.elim) m4, alike_pairs cells, sortable_pairs cells, depth_pairs cells, fun q hq => ?_⟩
      have sp : (sortV zs (cells.map pairD)).Perm zs := sortV_perm (by rw [List.length_map, lz, l16])
      generalize sortV zs (cells.map pairD) = xs at *
      have s5 : Same H4 (upd H4 q (.lst xs)) := Same.new hq
      have e5 : (upd H4 q (.lst xs)) q = some (.lst xs) := upd_same
      obtain ⟨cs, m5, pcs⟩ := Paired.perm sp (pairs_keep (TFr.same s5) m4)
      generalize upd H4 q (.lst xs) = H5 at *
      refine ⟨_, rfl, _, rfl, q, xs, rfl, SqL.of e5, fun po hpo => ?_⟩
      have s6 : Same H5 (upd H5 po (.lst (cutV xs none (some (m : Int))))) := Same.new hpo
      have e6 : (upd H5 po (.lst (cutV xs none (some (m : Int))))) po = some (.lst (xs.take m)) := by rw [upd_same, cutTo]
      have m6 : Pairs (upd H5 po (.lst (cutV xs none (some (m : Int))))) (xs.take m) (cs.take m) := Paired.take m (pairs_keep (TFr.same s6) m5)
      generalize upd H5 po (.lst (cutV xs none (some (m : Int)))) = H6 at *
      have lxs : xs.length = 16 := by rw [sp.length_eq, lz]
      have lxm : (xs.take m).length = m := by rw [List.length_take]; omega
      have csok : ∀ c ∈ cs.take m, MarksOk 6 c := fun c hc => cok c (pcs.subset (List.mem_of_mem_take hc))
      generalize xs.take m = xo at *
      generalize cs.take m = co at *
      have s36 := s4.trans (s5.trans s6)
      have dk6 := dk3.keep s36
      have npo : po ≠ a := fun e => by
        obtain ⟨ys', y⟩ := (dk3.keep (s4.trans s5)).is
        rw [← e, hpo] at y
        cases y
      refine ⟨_, rfl, (by show 14 ≤ sizeLine; decide), fun q2 hq2 => ?_⟩
      have s7 : Same H6 (upd H6 q2 (.lst [.str "a", .str "b", .str "c", .str "d", .str "e", .str "f", .str "g", .str "h", .str "i", .str "j", .str "k", .str "l", .str "m", .str "n"])) := Same.new hq2
      have e7 : (upd H6 q2 (.lst [.str "a", .str "b", .str "c", .str "d", .str "e", .str "f", .str "g", .str "h", .str "i", .str "j", .str "k", .str "l", .str "m", .str "n"])) q2 = some (.lst [.str "a", .str "b", .str "c", .str "d", .str "e", .str "f", .str "g", .str "h", .str "i", .str "j", .str "k", .str "l", .str "m", .str "n"]) := upd_same
      generalize upd H6 q2 (.lst [.str "a", .str "b", .str "c", .str "d", .str "e", .str "f", .str "g", .str "h", .str "i", .str "j", .str "k", .str "l", .str "m", .str "n"]) = H7 at *
      have dk7 := dk6.keep s7
      refine ⟨a, l, q2, names14.map V.str, rfl, dk7, .inl (SqL.of e7), by decide, fun qn yn H8 pn en hqn dk8 f8 => ?_⟩
      obtain ⟨us, rfl, pus⟩ := strs_perm pn
      have lus : us.length = 14 := pus.length_eq
      have usok : ∀ z ∈ us, WordOk z := fun z hz => names_ok z (pus.subset hz)
      have e6' := f8 _ _ (s7 _ _ e6) npo
      have m8 : Pairs H8 xo co := pairs_keep (dk7.tfr f8) (pairs_keep (TFr.same s7) m6)
      have lco : co.length = m := by rw [← Paired.length m6, lxm]
      have cp8 := f8 _ _ (s7 _ _ (s36 _ _ cp3)) npc
      have cm8 : Mks H8 cy cells := ((cm3.keep (TFr.same s36)).keep (TFr.same s7)).keep (dk7.tfr f8)
      clear e5 e6 e7 m5 m6 cp2 cp3 cm2 cm3 dk2 dk3 dk4 dk6 dk7 s4 s5 s6 s7 s36 f3 f8 m4 e4
      refine ⟨_, rfl, _, rfl, by omega, by omega, fun D2 hD2 => ?_⟩
      refine lc_range (n := m) (fun j H9 => ∃ (zs : List V) (es : List Ent), Same H8 H9 ∧ H9 D2 = some (.lst zs) ∧ Ents H9 zs es ∧ es.length = j ∧ ∀ e ∈ es, EntOk e) ⟨[], [], Same.new hD2, upd_same, .nil, rfl, fun _ h => nomatch h⟩ ?_ ?_
      · rintro j H9 hj ⟨zs, es, s9, e9, m9, l9, ok9⟩
        have lzs : zs.length = j := by rw [Paired.length m9, l9]
        obtain ⟨c1, hc1, u1, ⟨t1, et1, ht1⟩, mu1⟩ := Paired.get (pairs_keep (TFr.same s9) m8) (List.getElem?_eq_getElem (show j < xo.length by omega))
        have gn : (us.map V.str)[j]? = some (.str (us[j]'(by omega))) := by rw [List.getElem?_map, List.getElem?_eq_getElem (by omega)]; rfl
        have wn := usok _ (List.getElem_mem (show j < us.length by omega))
        generalize us[j]'(by omega) = nm at *
        refine ⟨rfl, _, rfl, _, rfl, po, _, _, _, rfl, rfl, SqL.of (s9 _ _ e6'), at_of (j := j) (by omega) (List.getElem?_eq_getElem (show j < xo.length by omega)), t1, _, _, _, et1, rfl, sqT ht1, at_of (j := 1) rfl rfl, _, rfl, _, rfl, qn, _, _, _, rfl, rfl, SqL.of (s9 _ _ en), at_of (j := j) (by omega) gn, (by show 2 ≤ sizeLine; decide), fun q3 hq3 => ?_⟩
        have sA : Same H9 (upd H9 q3 (.tup [u1, .str nm])) := Same.new hq3
        have eA : (upd H9 q3 (.tup [u1, .str nm])) q3 = some (.tup [u1, .str nm]) := upd_same
        generalize upd H9 q3 (.tup [u1, .str nm]) = HA at *
        refine ⟨zs, sA _ _ e9, small1000 (by omega), ?_⟩
        have tf : TFr HA (upd HA D2 (.lst (zs ++ [.ref q3]))) := TFr.lst (sA _ _ e9)
        refine ⟨zs ++ [.ref q3], es ++ [(c1, nm)], fun b o h => by rw [upd_ne (ne_of_none h hD2)]; exact sA _ _ (s9 _ _ h), upd_same, Paired.app (Ents.keep tf (Ents.keep (TFr.same sA) m9)) (Paired.one ⟨u1, ⟨q3, rfl, tf _ _ eA⟩, Tup.keep tf (Tup.keep (TFr.same sA) mu1)⟩), by rw [List.length_append, l9]; rfl, fun e he => ?_⟩
        rcases List.mem_append.mp he with h | h
        · exact ok9 e h
        · rw [List.mem_singleton.mp h]
          exact ⟨csok c1 (List.mem_of_getElem? hc1), wn⟩
      rintro H9 ⟨zs, es, s9, e9, m9, l9, ok9⟩
      refine ⟨D2, zs, rfl, .inl ⟨SqL.of e9, fun pe hpe => ?_⟩⟩
      have sA : Same H9 (upd H9 pe (.tup zs)) := Same.new hpe
      have ep : (upd H9 pe (.tup zs)) pe = some (.tup zs) := upd_same
      have ems := Ents.keep (TFr.same sA) m9
      generalize upd H9 pe (.tup zs) = HA at *
      have s8A := s9.trans sA
      have cpA := s8A _ _ cp8
      have cmA := cm8.keep (TFr.same s8A)
      clear m9 e9 sA s9 m8 en e6' s8A
      refine ⟨_, rfl, ?_⟩
      intro x dx nx ndx _
      refine (show spFam CF [.ref x, .int 4, .ref pc] (upd (upd HA dx (.own x)) x (.ins CF dx [])) _ _ from ?_)
      have sx : Same HA (upd (upd HA dx (.own x)) x (.ins CF dx [])) := fun b o e => by rw [upd_ne (ne_of_none e nx), upd_ne (ne_of_none e ndx)]; exact e
      refine ⟨x, dx, 4, pc, cy, cells, rfl, upd_same, sx _ _ cpA, cmA.keep (TFr.same sx), fok, fun HB hfm kp => ⟨rfl, ?_⟩⟩
      have sAB : Same HA HB := fun b o e => kp b o (sx b o e) (ne_of_none e nx)
      have cpB := sAB _ _ cpA
      have cmB := cmA.keep (TFr.same sAB)
      have epB := sAB _ _ ep
      have emB := Ents.keep (TFr.same sAB) ems
      clear cpA cmA ep ems sAB sx kp
      refine ⟨(by show 3 ≤ sizeLine; decide), fun tm htm => ?_⟩
      have sC : Same HB (upd HB tm (.tup [.str "row", .str "within", .str "most"])) := Same.new htm
      have eC : (upd HB tm (.tup [.str "row", .str "within", .str "most"])) tm = some (.tup [.str "row", .str "within", .str "most"]) := upd_same
      generalize upd HB tm (.tup [.str "row", .str "within", .str "most"]) = HC at *
      refine ⟨tm, rfl, ⟨_, sqT eC⟩, for_tup (K := K) (a := tm) (xs := [.str "row", .str "within", .str "most"]) (fun i σ H' => Same HC H' ∧ ∃ o4 o17 o18 : Option V, σ = [some (.ref z), some (.ref a), some (.ref pc), o3, o4, o5, o6, o7, o8, o9, some (.int (m : Int)), some (.ref po), none, some (.ref qn), some (.ref pe), none, some (.ref x), o17, o18]) ⟨Same.refl _, _, _, _, rfl⟩ (fun i σ H' _ ⟨e, _⟩ => sqT (e _ _ eC)) ?_ ?_⟩
      · rintro i y σ H2 hi ⟨s2, o4', o17, o18, rfl⟩
        obtain ⟨man, rfl, hm, nw⟩ : ∃ man : Str, y = .str man ∧ Man man ∧ man ≠ "weights" := by
          have : i < 3 := (List.getElem?_eq_some_iff.mp hi).1
          obtain rfl | rfl | rfl : i = 0 ∨ i = 1 ∨ i = 2 := by omega
          · exact ⟨"row", (Option.some.inj hi).symm, .inl rfl, by decide⟩
          · exact ⟨"within", (Option.some.inj hi).symm, .inr (.inl rfl), by decide⟩
          · exact ⟨"most", (Option.some.inj hi).symm, .inr (.inr (.inr rfl)), by decide⟩
        have sB2 := sC.trans s2
        have cp2 := sB2 _ _ cpB
        have cm2 := cmB.keep (TFr.same sB2)
        have ep2 := sB2 _ _ epB
        have em2 := Ents.keep (TFr.same sB2) emB
        refine ⟨_, rfl, pc, rfl, ⟨_, sqT cp2⟩, fun D hD => ?_⟩
        refine lc_tup (K := K) (a := pc) (xs := cy) (fun i H4 => Same H2 H4 ∧ H4 D = some (.lst (((heardAll man [] es cells).take i).map formV))) ⟨Same.new hD, upd_same⟩ (fun i H4 _ ⟨e, _⟩ => sqT (e _ _ cp2)) ?_ ?_
        · rintro j y H4 hj ⟨sm, e4⟩
          have lt := (List.getElem?_eq_some_iff.mp hj).1
          obtain ⟨c, hc, mc⟩ := Paired.get (cm2.keep (TFr.same sm)) hj
          refine ⟨rfl, _, rfl, _, rfl, _, rfl, man, pe, .non, y, zs, [], es, c, rfl, hm, .inl ⟨nw, rfl⟩, sm _ _ ep2, Ents.keep (TFr.same sm) em2, ok9, by omega, mc, fun H5 s5 => ?_⟩
          refine ⟨_, s5 _ _ e4, by rw [List.length_map]; exact small1000 (Nat.le_trans (List.length_take_le _ _) (by omega)), fun b o h => by rw [upd_ne (ne_of_none h hD)]; exact s5 _ _ (sm b o h), ?_⟩
          rw [upd_same, List.take_add_one, heardAll_at hc, List.map_append]
          rfl
        rintro H4 ⟨sm, e4⟩
        have lh : (heardAll man [] es cells).length = 16 := by rw [heardAll_len, l16]
        rw [List.take_of_length_le (by omega)] at e4
        have lm : ((heardAll man [] es cells).map formV).length = 16 := by rw [List.length_map, lh]
        refine ⟨_, rfl, _, _, rfl, .inl ⟨_, SqL.of e4, rfl⟩, _, rfl, by omega, by omega, fun D2 hD2 => ?_⟩
        generalize hfs : heardAll man [] es cells = fs at *
        refine lc_range (n := (((fs.map formV).length : Nat) : Int).toNat) (fun j H5 => Same H4 H5 ∧ H5 D2 = some (.lst ((nat2 ((List.range j).filter (isFirst fs))).map V.int))) ⟨Same.new hD2, upd_same⟩ ?_ ?_
        · rintro j H5 hj ⟨s5, e5⟩
          rw [lm] at hj
          have lj : j < fs.length := by omega
          have hD := s5 _ _ e4
          have gf : fs[j]? = some fs[j] := List.getElem?_eq_getElem lj
          have gj : (fs.map formV)[j]? = some (formV fs[j]) := by rw [List.getElem?_map, gf]; rfl
          generalize fs[j]'lj = fo at gf gj
          refine ⟨rfl, ?_⟩
          refine ⟨_, rfl, _, rfl, D, _, _, _, rfl, rfl, SqL.of hD, at_of (j := j) (by omega) gj, rfl, ?_⟩
          cases fo with
          | none =>
            refine ⟨_, rfl, ?_⟩
            refine iteF (iteF ⟨s5, ?_⟩)
            rw [firstB_next, show isFirst fs j = false by unfold isFirst; rw [gf], if_neg Bool.false_ne_true, List.append_nil]
            exact e5
          | some z1 =>
            refine ⟨_, rfl, ?_⟩
            refine iteT ?_
            refine ⟨_, rfl, _, rfl, D, _, _, _, rfl, rfl, SqL.of hD, at_of (j := j) (by omega) gj, ?_⟩
            dsimp only [tNoPart]
            refine ⟨_, rfl, _, rfl, _, rfl, D, _, rfl, SqL.of hD, fun p8 hp8 => ?_⟩
            have ej : (0 : Int) + (j : Int) = ((j : Nat) : Int) := by omega
            have e8 : (upd H5 p8 (.lst (cutV (fs.map formV) none (some ((0 : Int) + (j : Int)))))) p8 = some (.lst ((fs.take j).map formV)) := by rw [upd_same, ej, cutTo, List.map_take]
            have s8 : Same H5 (upd H5 p8 (.lst (cutV (fs.map formV) none (some ((0 : Int) + (j : Int)))))) := Same.new hp8
            generalize upd H5 p8 (.lst (cutV (fs.map formV) none (some ((0 : Int) + (j : Int))))) = H8 at *
            refine ⟨p8, _, rfl, .inl (SqL.of e8), rfl, (by rw [List.all_map]; exact List.all_eq_true.mpr fun x _ => by cases x <;> rfl), ?_⟩
            rw [show formV (some z1) = V.str z1 from rfl, inV_take]
            have isf : isFirst fs j = !decide (some z1 ∈ fs.take j) := by unfold isFirst; rw [gf]; simp
            refine ⟨_, rfl, ?_⟩
            cases hd : decide (some z1 ∈ fs.take j) with
            | true =>
              refine iteF ⟨s5.trans s8, ?_⟩
              rw [firstB_next, isf, hd, if_neg (by decide), List.append_nil]
              exact s8 _ _ e5
            | false =>
              refine iteT ⟨_, rfl, _, s8 _ _ e5, by rw [List.length_map]; exact small1000 (Nat.le_trans (by unfold nat2; rw [List.length_map]; exact first_len j) (by omega)), fun b o h => by rw [upd_ne (ne_of_none h hD2)]; exact s8 _ _ (s5 b o h), ?_⟩
              rw [upd_same, firstB_next, isf, hd, if_pos (by decide)]
              unfold nat2
              rw [List.map_append, List.map_append, ej]
              rfl
        · rintro H5 ⟨s5, e5⟩
          rw [lm] at e5
          dsimp only [tNil]
          refine ⟨_, _, rfl, .inl ⟨_, SqL.of e5, rfl⟩, ?_⟩

          have cp5 := s5 _ _ (sm _ _ cp2)
          have cm5 := cm2.keep (TFr.same (sm.trans s5))
          have ep5 := s5 _ _ (sm _ _ ep2)
          have em5 := Ents.keep (TFr.same (sm.trans s5)) em2
          have fm5 : FamAt CF H5 x 4 pc := ⟨hfm.choose, (sB2.trans (sm.trans s5)) _ _ hfm.choose_spec⟩
          refine ⟨_, rfl, _, rfl, ?_⟩
          intro bx dx nx ndx _
          refine made_book (ws := []) nx ndx hm (.inl ⟨nw, rfl⟩) ep5 em5 ok9 (by omega) fun H8 hb s8 => ⟨rfl, ?_⟩
          refine ⟨_, rfl, .inr ⟨bx, x, man, [], es, 4, pc, cy, cells, rfl, hb, hm, ⟨fm5.choose, s8 _ _ fm5.choose_spec⟩, s8 _ _ cp5, cm5.keep (TFr.same s8), fok, ?_⟩⟩
          rw [hfs]
          intro zs rise H9 s9
          have cnt : (List.map V.int (nat2 (List.filter (isFirst fs) (List.range ((16 : Nat) : Int).toNat)))).length = zs.length := by
            unfold nat2
            rw [List.length_map, List.length_map, ← firsts_rise rise]
            unfold firsts
            rw [lh]
            rfl
          rw [cnt]
          refine ⟨(by show 2 ≤ sizeLine; decide), fun q8 hq8 => ?_⟩
          have sE : Same H9 (upd H9 q8 (.lst [.str "let", .str "many"])) := Same.new hq8
          have eE : (upd H9 q8 (.lst [.str "let", .str "many"])) q8 = some (.lst [.str "let", .str "many"]) := upd_same
          generalize upd H9 q8 (.lst [.str "let", .str "many"]) = HE at *
          refine ⟨_, rfl, _, _, rfl, rfl, .inr ⟨_, rfl, ?_⟩⟩
          have two : ([.str "let", .str "many"] : List V)[(if decide ((12 : Int) < (zs.length : Int)) = true then 1 else 0 : Nat)]? = some (.str (if 12 < zs.length then ("many" : Str) else ("let" : Str))) := by
            by_cases h : 12 < zs.length
            · rw [if_pos h, decide_eq_true (show (12 : Int) < (zs.length : Int) by omega)]; rfl
            · rw [if_neg h, decide_eq_false (show ¬ (12 : Int) < (zs.length : Int) by omega)]; rfl
          have ix : (if decide ((12 : Int) < (zs.length : Int)) = true then (1 : Int) else 0) = (((if decide ((12 : Int) < (zs.length : Int)) = true then 1 else 0 : Nat)) : Int) := by split <;> rfl
          refine ⟨q8, _, _, _, rfl, rfl, SqL.of eE, at_of (j := (if decide ((12 : Int) < (zs.length : Int)) = true then 1 else 0 : Nat)) ix two, ?_⟩
          refine ⟨rfl, _, rfl, ?_⟩
          refine ite2 (fun no => by simp at no) (fun _ => ?_)
          exact ⟨fun b o h => s9 _ _ (s8 _ _ (s5 _ _ (sm _ _ (s2 _ _ h)))) |> sE _ _, _, _, _, rfl⟩
      · rintro σ H2 ⟨_, o4', o17, o18, rfl⟩
        exact k H2
end
end Xci

namespace Xci
open PySem L2
set_option maxHeartbeats 8000000 in
theorem all_mk {l : PySem.W.OpenLaw} {w : World} {K : PySem.W.Frag} {h : Heap} {mg : Str → Option Value} {fa f0 f1 f2 f3 f4 f5 f6 f7 f8 f9 f10 f11 f12 f13 f14 f15 f16 f17 f18 f19 f20 f21 f22 f23 f24 f25 f26 f27 f28 f29 f30 f31 f32 f33 f34 f35 f36 f37 f38 f39 f40 f41 f42 f43 f44 f45 f46 f47 f48 f49 C CF CB CFormError CNoCell fNoCell ccNoCell cdaNoCell CTooMany fTooMany ccTooMany cdaTooMany aM : Addr} (X : K.In h) (G : h.Ns mainGlobals mg) (hfa : mg "law" = some (.ref fa))
    {od0 an0 od1 an1 od2 an2 od3 an3 od4 an4 od5 an5 od6 an6 od7 an7 od8 an8 od9 an9 od10 an10 od11 an11 od12 an12 od13 an13 od14 an14 od15 an15 od16 an16 od17 an17 od18 an18 od19 an19 od20 an20 od21 an21 od22 an22 od23 an23 od24 an24 od25 an25 od26 an26 od27 an27 od28 an28 od29 an29 od30 an30 od31 an31 od32 an32 od33 an33 od34 an34 od35 an35 od36 an36 od37 an37 od38 an38 od39 an39 od40 an40 od41 an41 od42 an42 od43 an43 od44 an44 od45 an45 od46 an46 od47 an47 od48 an48 od49 an49 odM : Option Addr} {sl0 sl1 sl2 sl3 sl4 sl5 sl6 sl7 sl8 sl9 sl10 sl11 sl12 sl13 sl14 sl15 sl16 sl17 sl18 sl19 sl20 sl21 sl22 sl23 sl24 sl25 sl26 sl27 sl28 sl29 sl30 sl31 sl32 sl33 sl34 sl35 sl36 sl37 sl38 sl39 sl40 sl41 sl42 sl43 sl44 sl45 sl46 sl47 sl48 sl49 slM : Array (Option Value)} {oc0 kV0 dc0 pm0 cd0 ct0 oc1 kV1 dc1 pm1 cd1 ct1 oc2 kV2 dc2 pm2 cd2 ct2 oc3 kV3 dc3 pm3 cd3 ct3 oc4 kV4 dc4 pm4 cd4 ct4 oc5 kV5 dc5 pm5 cd5 ct5 oc6 kV6 dc6 pm6 cd6 ct6 oc7 kV7 dc7 pm7 cd7 ct7 oc8 kV8 dc8 pm8 cd8 ct8 oc9 kV9 dc9 pm9 cd9 ct9 oc10 kV10 dc10 pm10 cd10 ct10 oc11 kV11 dc11 pm11 cd11 ct11 oc12 kV12 dc12 pm12 cd12 ct12 oc13 kV13 dc13 pm13 cd13 ct13 oc14 kV14 dc14 pm14 cd14 ct14 oc15 kV15 dc15 pm15 cd15 ct15 oc16 kV16 dc16 pm16 cd16 ct16 oc17 kV17 dc17 pm17 cd17 ct17 oc18 kV18 dc18 pm18 cd18 ct18 oc19 kV19 dc19 pm19 cd19 ct19 oc20 kV20 dc20 pm20 cd20 ct20 oc21 kV21 dc21 pm21 cd21 ct21 oc22 kV22 dc22 pm22 cd22 ct22 oc23 kV23 dc23 pm23 cd23 ct23 oc24 kV24 dc24 pm24 cd24 ct24 oc25 kV25 dc25 pm25 cd25 ct25 oc26 kV26 dc26 pm26 cd26 ct26 oc27 kV27 dc27 pm27 cd27 ct27 oc28 kV28 dc28 pm28 cd28 ct28 oc29 kV29 dc29 pm29 cd29 ct29 oc30 kV30 dc30 pm30 cd30 ct30 oc31 kV31 dc31 pm31 cd31 ct31 oc32 kV32 dc32 pm32 cd32 ct32 oc33 kV33 dc33 pm33 cd33 ct33 oc34 kV34 dc34 pm34 cd34 ct34 oc35 kV35 dc35 pm35 cd35 ct35 oc36 kV36 dc36 pm36 cd36 ct36 oc37 kV37 dc37 pm37 cd37 ct37 oc38 kV38 dc38 pm38 cd38 ct38 oc39 kV39 dc39 pm39 cd39 ct39 oc40 kV40 dc40 pm40 cd40 ct40 oc41 kV41 dc41 pm41 cd41 ct41 oc42 kV42 dc42 pm42 cd42 ct42 oc43 kV43 dc43 pm43 cd43 ct43 oc44 kV44 dc44 pm44 cd44 ct44 oc45 kV45 dc45 pm45 cd45 ct45 oc46 kV46 dc46 pm46 cd46 ct46 oc47 kV47 dc47 pm47 cd47 ct47 oc48 kV48 dc48 pm48 cd48 ct48 oc49 kV49 dc49 pm49 cd49 ct49 : Value} {u0 u1 u2 u3 u4 u5 u6 w0 w1 w2 w3 : Tok} {nM : Nat}
    {nmNoCell qnNoCell : Str} {NNoCell : Addr} {bsNoCell subNoCell : List Value} {snNoCell : List Str} {abNoCell : Bool} {colNoCell : Option Bool} {ddNoCell odNoCell anNoCell odANoCell odBNoCell : Option Addr} {maNoCell mbNoCell mcNoCell mdNoCell meNoCell : Option Value} {ocNoCell kVNoCell docNoCell pmNoCell ctNoCell ocANoCell ocBNoCell : Value} {slNoCell slANoCell slBNoCell : Array (Option Value)} {vsNoCell : Array Value} {tfNoCell : Tok} {fileNoCell : Str} {nmTooMany qnTooMany : Str} {NTooMany : Addr} {bsTooMany subTooMany : List Value} {snTooMany : List Str} {abTooMany : Bool} {colTooMany : Option Bool} {ddTooMany odTooMany anTooMany odATooMany odBTooMany : Option Addr} {maTooMany mbTooMany mcTooMany mdTooMany meTooMany : Option Value} {ocTooMany kVTooMany docTooMany pmTooMany ctTooMany ocATooMany ocBTooMany : Value} {slTooMany slATooMany slBTooMany : Array (Option Value)} {vsTooMany : Array Value} {tfTooMany : Tok} {fileTooMany : Str}
    (a0 : PySem.W.nsIn K mainGlobals "is_integer" = some (some (.ref f0))) (l0 : K.lookup f0 = some ⟨oc0, od0, .func (PySem.W.fnOf "is_integer" "is_integer" (defArgs sIsInteger) (defBody sIsInteger) (defScope sIsInteger) .none kV0 dc0 pm0 an0 cd0 ct0), sl0⟩) (c0 : PySem.W.codeIn K cd0 "is_integer" = true) (k0 : PySem.W.keepIn K (.ref f0) = true)
    (a1 : PySem.W.nsIn K mainGlobals "is_between" = some (some (.ref f1))) (l1 : K.lookup f1 = some ⟨oc1, od1, .func (PySem.W.fnOf "is_between" "is_between" (defArgs sIsBetween) (defBody sIsBetween) (defScope sIsBetween) .none kV1 dc1 pm1 an1 cd1 ct1), sl1⟩) (c1 : PySem.W.codeIn K cd1 "is_between" = true) (k1 : PySem.W.keepIn K (.ref f1) = true)
    (a2 : PySem.W.nsIn K mainGlobals "is_cell" = some (some (.ref f2))) (l2 : K.lookup f2 = some ⟨oc2, od2, .func (PySem.W.fnOf "is_cell" "is_cell" (defArgs sIsCell) (defBody sIsCell) (defScope sIsCell) .none kV2 dc2 pm2 an2 cd2 ct2), sl2⟩) (c2 : PySem.W.codeIn K cd2 "is_cell" = true) (k2 : PySem.W.keepIn K (.ref f2) = true)
    (a3 : PySem.W.nsIn K mainGlobals "is_form" = some (some (.ref f3))) (l3 : K.lookup f3 = some ⟨oc3, od3, .func (PySem.W.fnOf "is_form" "is_form" (defArgs sIsForm) (defBody sIsForm) (defScope sIsForm) .none kV3 dc3 pm3 an3 cd3 ct3), sl3⟩) (c3 : PySem.W.codeIn K cd3 "is_form" = true) (k3 : PySem.W.keepIn K (.ref f3) = true)
    (a4 : PySem.W.nsIn K mainGlobals "lies_within" = some (some (.ref f4))) (l4 : K.lookup f4 = some ⟨oc4, od4, .func (PySem.W.fnOf "lies_within" "lies_within" (defArgs sLiesWithin) (defBody sLiesWithin) (defScope sLiesWithin) .none kV4 dc4 pm4 an4 cd4 ct4), sl4⟩) (c4 : PySem.W.codeIn K cd4 "lies_within" = true) (k4 : PySem.W.keepIn K (.ref f4) = true)
    (a5 : PySem.W.nsIn K mainGlobals "_are_forms" = some (some (.ref f5))) (l5 : K.lookup f5 = some ⟨oc5, od5, .func (PySem.W.fnOf "_are_forms" "_are_forms" (defArgs sAreForms) (defBody sAreForms) (defScope sAreForms) .none kV5 dc5 pm5 an5 cd5 ct5), sl5⟩) (c5 : PySem.W.codeIn K cd5 "_are_forms" = true) (k5 : PySem.W.keepIn K (.ref f5) = true)
    (a6 : PySem.W.nsIn K mainGlobals "_unlike" = some (some (.ref f6))) (l6 : K.lookup f6 = some ⟨oc6, od6, .func (PySem.W.fnOf "_unlike" "_unlike" (defArgs sUnlike) (defBody sUnlike) (defScope sUnlike) .none kV6 dc6 pm6 an6 cd6 ct6), sl6⟩) (c6 : PySem.W.codeIn K cd6 "_unlike" = true) (k6 : PySem.W.keepIn K (.ref f6) = true)
    (a7 : PySem.W.nsIn K mainGlobals "limited" = some (some (.ref f7))) (l7 : K.lookup f7 = some ⟨oc7, od7, .func (PySem.W.fnOf "limited" "limited" (defArgs sLimited) (defBody sLimited) (defScope sLimited) .none kV7 dc7 pm7 an7 cd7 ct7), sl7⟩) (c7 : PySem.W.codeIn K cd7 "limited" = true) (k7 : PySem.W.keepIn K (.ref f7) = true)
    (a8 : PySem.W.nsIn K mainGlobals "is_entry" = some (some (.ref f8))) (l8 : K.lookup f8 = some ⟨oc8, od8, .func (PySem.W.fnOf "is_entry" "is_entry" (defArgs sIsEntry) (defBody sIsEntry) (defScope sIsEntry) .none kV8 dc8 pm8 an8 cd8 ct8), sl8⟩) (c8 : PySem.W.codeIn K cd8 "is_entry" = true) (k8 : PySem.W.keepIn K (.ref f8) = true)
    (a9 : PySem.W.nsIn K mainGlobals "_are_entries" = some (some (.ref f9))) (l9 : K.lookup f9 = some ⟨oc9, od9, .func (PySem.W.fnOf "_are_entries" "_are_entries" (defArgs sAreEntries) (defBody sAreEntries) (defScope sAreEntries) .none kV9 dc9 pm9 an9 cd9 ct9), sl9⟩) (c9 : PySem.W.codeIn K cd9 "_are_entries" = true) (k9 : PySem.W.keepIn K (.ref f9) = true)
    (a10 : PySem.W.nsIn K mainGlobals "_are_weights" = some (some (.ref f10))) (l10 : K.lookup f10 = some ⟨oc10, od10, .func (PySem.W.fnOf "_are_weights" "_are_weights" (defArgs sAreWeights) (defBody sAreWeights) (defScope sAreWeights) .none kV10 dc10 pm10 an10 cd10 ct10), sl10⟩) (c10 : PySem.W.codeIn K cd10 "_are_weights" = true) (k10 : PySem.W.keepIn K (.ref f10) = true)
    (a11 : PySem.W.nsIn K mainGlobals "fitting" = some (some (.ref f11))) (l11 : K.lookup f11 = some ⟨oc11, od11, .func (PySem.W.fnOf "fitting" "fitting" (defArgs sFitting) (defBody sFitting) (defScope sFitting) .none kV11 dc11 pm11 an11 cd11 ct11), sl11⟩) (c11 : PySem.W.codeIn K cd11 "fitting" = true) (k11 : PySem.W.keepIn K (.ref f11) = true)
    (a12 : PySem.W.nsIn K mainGlobals "rank" = some (some (.ref f12))) (l12 : K.lookup f12 = some ⟨oc12, od12, .func (PySem.W.fnOf "rank" "rank" (defArgs sRank) (defBody sRank) (defScope sRank) .none kV12 dc12 pm12 an12 cd12 ct12), sl12⟩) (c12 : PySem.W.codeIn K cd12 "rank" = true) (k12 : PySem.W.keepIn K (.ref f12) = true)
    (a13 : PySem.W.nsIn K mainGlobals "_highest" = some (some (.ref f13))) (l13 : K.lookup f13 = some ⟨oc13, od13, .func (PySem.W.fnOf "_highest" "_highest" (defArgs sHighest) (defBody sHighest) (defScope sHighest) .none kV13 dc13 pm13 an13 cd13 ct13), sl13⟩) (c13 : PySem.W.codeIn K cd13 "_highest" = true) (k13 : PySem.W.keepIn K (.ref f13) = true)
    (a14 : PySem.W.nsIn K mainGlobals "speaking" = some (some (.ref f14))) (l14 : K.lookup f14 = some ⟨oc14, od14, .func (PySem.W.fnOf "speaking" "speaking" (defArgs sSpeaking) (defBody sSpeaking) (defScope sSpeaking) .none kV14 dc14 pm14 an14 cd14 ct14), sl14⟩) (c14 : PySem.W.codeIn K cd14 "speaking" = true) (k14 : PySem.W.keepIn K (.ref f14) = true)
    (a15 : PySem.W.nsIn K mainGlobals "_holds_all" = some (some (.ref f15))) (l15 : K.lookup f15 = some ⟨oc15, od15, .func (PySem.W.fnOf "_holds_all" "_holds_all" (defArgs sHoldsAll) (defBody sHoldsAll) (defScope sHoldsAll) .none kV15 dc15 pm15 an15 cd15 ct15), sl15⟩) (c15 : PySem.W.codeIn K cd15 "_holds_all" = true) (k15 : PySem.W.keepIn K (.ref f15) = true)
    (a16 : PySem.W.nsIn K mainGlobals "_is_outdone" = some (some (.ref f16))) (l16 : K.lookup f16 = some ⟨oc16, od16, .func (PySem.W.fnOf "_is_outdone" "_is_outdone" (defArgs sIsOutdone) (defBody sIsOutdone) (defScope sIsOutdone) .none kV16 dc16 pm16 an16 cd16 ct16), sl16⟩) (c16 : PySem.W.codeIn K cd16 "_is_outdone" = true) (k16 : PySem.W.keepIn K (.ref f16) = true)
    (a17 : PySem.W.nsIn K mainGlobals "_in_quarrel" = some (some (.ref f17))) (l17 : K.lookup f17 = some ⟨oc17, od17, .func (PySem.W.fnOf "_in_quarrel" "_in_quarrel" (defArgs sInQuarrel) (defBody sInQuarrel) (defScope sInQuarrel) .none kV17 dc17 pm17 an17 cd17 ct17), sl17⟩) (c17 : PySem.W.codeIn K cd17 "_in_quarrel" = true) (k17 : PySem.W.keepIn K (.ref f17) = true)
    (a18 : PySem.W.nsIn K mainGlobals "speaker" = some (some (.ref f18))) (l18 : K.lookup f18 = some ⟨oc18, od18, .func (PySem.W.fnOf "speaker" "speaker" (defArgs sSpeaker) (defBody sSpeaker) (defScope sSpeaker) .none kV18 dc18 pm18 an18 cd18 ct18), sl18⟩) (c18 : PySem.W.codeIn K cd18 "speaker" = true) (k18 : PySem.W.keepIn K (.ref f18) = true)
    (a19 : PySem.W.nsIn K mainGlobals "form_among" = some (some (.ref f19))) (l19 : K.lookup f19 = some ⟨oc19, od19, .func (PySem.W.fnOf "form_among" "form_among" (defArgs sFormAmong) (defBody sFormAmong) (defScope sFormAmong) .none kV19 dc19 pm19 an19 cd19 ct19), sl19⟩) (c19 : PySem.W.codeIn K cd19 "form_among" = true) (k19 : PySem.W.keepIn K (.ref f19) = true)
    (a20 : PySem.W.nsIn K mainGlobals "_form_at" = some (some (.ref f20))) (l20 : K.lookup f20 = some ⟨oc20, od20, .func (PySem.W.fnOf "_form_at" "_form_at" (defArgs sFormAt) (defBody sFormAt) (defScope sFormAt) .none kV20 dc20 pm20 an20 cd20 ct20), sl20⟩) (c20 : PySem.W.codeIn K cd20 "_form_at" = true) (k20 : PySem.W.keepIn K (.ref f20) = true)
    (a21 : PySem.W.nsIn K mainGlobals "forms_made" = some (some (.ref f21))) (l21 : K.lookup f21 = some ⟨oc21, od21, .func (PySem.W.fnOf "forms_made" "forms_made" (defArgs sFormsMade) (defBody sFormsMade) (defScope sFormsMade) .none kV21 dc21 pm21 an21 cd21 ct21), sl21⟩) (c21 : PySem.W.codeIn K cd21 "forms_made" = true) (k21 : PySem.W.keepIn K (.ref f21) = true)
    (a22 : PySem.W.nsIn K mainGlobals "made" = some (some (.ref f22))) (l22 : K.lookup f22 = some ⟨oc22, od22, .func (PySem.W.fnOf "made" "made" (defArgs sMade) (defBody sMade) (defScope sMade) .none kV22 dc22 pm22 an22 cd22 ct22), sl22⟩) (c22 : PySem.W.codeIn K cd22 "made" = true) (k22 : PySem.W.keepIn K (.ref f22) = true)
    (a23 : PySem.W.nsIn K mainGlobals "_are_cells" = some (some (.ref f23))) (l23 : K.lookup f23 = some ⟨oc23, od23, .func (PySem.W.fnOf "_are_cells" "_are_cells" (defArgs sAreCells) (defBody sAreCells) (defScope sAreCells) .none kV23 dc23 pm23 an23 cd23 ct23), sl23⟩) (c23 : PySem.W.codeIn K cd23 "_are_cells" = true) (k23 : PySem.W.keepIn K (.ref f23) = true)
    (a24 : PySem.W.nsIn K mainGlobals "_law_deck" = some (some (.ref f24))) (l24 : K.lookup f24 = some ⟨oc24, od24, .func (PySem.W.fnOf "_law_deck" "_law_deck" (defArgs sLawDeck) (defBody sLawDeck) (defScope sLawDeck) .none kV24 dc24 pm24 an24 cd24 ct24), sl24⟩) (c24 : PySem.W.codeIn K cd24 "_law_deck" = true) (k24 : PySem.W.keepIn K (.ref f24) = true)
    (a25 : PySem.W.nsIn K mainGlobals "_law_take" = some (some (.ref f25))) (l25 : K.lookup f25 = some ⟨oc25, od25, .func (PySem.W.fnOf "_law_take" "_law_take" (defArgs sLawTake) (defBody sLawTake) (defScope sLawTake) .none kV25 dc25 pm25 an25 cd25 ct25), sl25⟩) (c25 : PySem.W.codeIn K cd25 "_law_take" = true) (k25 : PySem.W.keepIn K (.ref f25) = true)
    (a26 : PySem.W.nsIn K mainGlobals "_law_mixed" = some (some (.ref f26))) (l26 : K.lookup f26 = some ⟨oc26, od26, .func (PySem.W.fnOf "_law_mixed" "_law_mixed" (defArgs sLawMixed) (defBody sLawMixed) (defScope sLawMixed) .none kV26 dc26 pm26 an26 cd26 ct26), sl26⟩) (c26 : PySem.W.codeIn K cd26 "_law_mixed" = true) (k26 : PySem.W.keepIn K (.ref f26) = true)
    (a27 : PySem.W.nsIn K mainGlobals "_law_word" = some (some (.ref f27))) (l27 : K.lookup f27 = some ⟨oc27, od27, .func (PySem.W.fnOf "_law_word" "_law_word" (defArgs sLawWord) (defBody sLawWord) (defScope sLawWord) .none kV27 dc27 pm27 an27 cd27 ct27), sl27⟩) (c27 : PySem.W.codeIn K cd27 "_law_word" = true) (k27 : PySem.W.keepIn K (.ref f27) = true)
    (a28 : PySem.W.nsIn K mainGlobals "_law_words" = some (some (.ref f28))) (l28 : K.lookup f28 = some ⟨oc28, od28, .func (PySem.W.fnOf "_law_words" "_law_words" (defArgs sLawWords) (defBody sLawWords) (defScope sLawWords) .none kV28 dc28 pm28 an28 cd28 ct28), sl28⟩) (c28 : PySem.W.codeIn K cd28 "_law_words" = true) (k28 : PySem.W.keepIn K (.ref f28) = true)
    (a29 : PySem.W.nsIn K mainGlobals "_law_lots" = some (some (.ref f29))) (l29 : K.lookup f29 = some ⟨oc29, od29, .func (PySem.W.fnOf "_law_lots" "_law_lots" (defArgs sLawLots) (defBody sLawLots) (defScope sLawLots) .none kV29 dc29 pm29 an29 cd29 ct29), sl29⟩) (c29 : PySem.W.codeIn K cd29 "_law_lots" = true) (k29 : PySem.W.keepIn K (.ref f29) = true)
    (a30 : PySem.W.nsIn K mainGlobals "_law_in" = some (some (.ref f30))) (l30 : K.lookup f30 = some ⟨oc30, od30, .func (PySem.W.fnOf "_law_in" "_law_in" (defArgs sLawIn) (defBody sLawIn) (defScope sLawIn) .none kV30 dc30 pm30 an30 cd30 ct30), sl30⟩) (c30 : PySem.W.codeIn K cd30 "_law_in" = true) (k30 : PySem.W.keepIn K (.ref f30) = true)
    (a31 : PySem.W.nsIn K mainGlobals "_law_proper" = some (some (.ref f31))) (l31 : K.lookup f31 = some ⟨oc31, od31, .func (PySem.W.fnOf "_law_proper" "_law_proper" (defArgs sLawProper) (defBody sLawProper) (defScope sLawProper) .none kV31 dc31 pm31 an31 cd31 ct31), sl31⟩) (c31 : PySem.W.codeIn K cd31 "_law_proper" = true) (k31 : PySem.W.keepIn K (.ref f31) = true)
    (a32 : PySem.W.nsIn K mainGlobals "_law_marks" = some (some (.ref f32))) (l32 : K.lookup f32 = some ⟨oc32, od32, .func (PySem.W.fnOf "_law_marks" "_law_marks" (defArgs sLawMarks) (defBody sLawMarks) (defScope sLawMarks) .none kV32 dc32 pm32 an32 cd32 ct32), sl32⟩) (c32 : PySem.W.codeIn K cd32 "_law_marks" = true) (k32 : PySem.W.keepIn K (.ref f32) = true)
    (a33 : PySem.W.nsIn K mainGlobals "_law_entries" = some (some (.ref f33))) (l33 : K.lookup f33 = some ⟨oc33, od33, .func (PySem.W.fnOf "_law_entries" "_law_entries" (defArgs sLawEntries) (defBody sLawEntries) (defScope sLawEntries) .none kV33 dc33 pm33 an33 cd33 ct33), sl33⟩) (c33 : PySem.W.codeIn K cd33 "_law_entries" = true) (k33 : PySem.W.keepIn K (.ref f33) = true)
    (a34 : PySem.W.nsIn K mainGlobals "_law_weights" = some (some (.ref f34))) (l34 : K.lookup f34 = some ⟨oc34, od34, .func (PySem.W.fnOf "_law_weights" "_law_weights" (defArgs sLawWeights) (defBody sLawWeights) (defScope sLawWeights) .none kV34 dc34 pm34 an34 cd34 ct34), sl34⟩) (c34 : PySem.W.codeIn K cd34 "_law_weights" = true) (k34 : PySem.W.keepIn K (.ref f34) = true)
    (a35 : PySem.W.nsIn K mainGlobals "_law_sum" = some (some (.ref f35))) (l35 : K.lookup f35 = some ⟨oc35, od35, .func (PySem.W.fnOf "_law_sum" "_law_sum" (defArgs sLawSum) (defBody sLawSum) (defScope sLawSum) .none kV35 dc35 pm35 an35 cd35 ct35), sl35⟩) (c35 : PySem.W.codeIn K cd35 "_law_sum" = true) (k35 : PySem.W.keepIn K (.ref f35) = true)
    (a36 : PySem.W.nsIn K mainGlobals "_law_fits" = some (some (.ref f36))) (l36 : K.lookup f36 = some ⟨oc36, od36, .func (PySem.W.fnOf "_law_fits" "_law_fits" (defArgs sLawFits) (defBody sLawFits) (defScope sLawFits) .none kV36 dc36 pm36 an36 cd36 ct36), sl36⟩) (c36 : PySem.W.codeIn K cd36 "_law_fits" = true) (k36 : PySem.W.keepIn K (.ref f36) = true)
    (a37 : PySem.W.nsIn K mainGlobals "_law_beats" = some (some (.ref f37))) (l37 : K.lookup f37 = some ⟨oc37, od37, .func (PySem.W.fnOf "_law_beats" "_law_beats" (defArgs sLawBeats) (defBody sLawBeats) (defScope sLawBeats) .none kV37 dc37 pm37 an37 cd37 ct37), sl37⟩) (c37 : PySem.W.codeIn K cd37 "_law_beats" = true) (k37 : PySem.W.keepIn K (.ref f37) = true)
    (a38 : PySem.W.nsIn K mainGlobals "_law_speaks" = some (some (.ref f38))) (l38 : K.lookup f38 = some ⟨oc38, od38, .func (PySem.W.fnOf "_law_speaks" "_law_speaks" (defArgs sLawSpeaks) (defBody sLawSpeaks) (defScope sLawSpeaks) .none kV38 dc38 pm38 an38 cd38 ct38), sl38⟩) (c38 : PySem.W.codeIn K cd38 "_law_speaks" = true) (k38 : PySem.W.keepIn K (.ref f38) = true)
    (a39 : PySem.W.nsIn K mainGlobals "_law_form_at" = some (some (.ref f39))) (l39 : K.lookup f39 = some ⟨oc39, od39, .func (PySem.W.fnOf "_law_form_at" "_law_form_at" (defArgs sLawFormAt) (defBody sLawFormAt) (defScope sLawFormAt) .none kV39 dc39 pm39 an39 cd39 ct39), sl39⟩) (c39 : PySem.W.codeIn K cd39 "_law_form_at" = true) (k39 : PySem.W.keepIn K (.ref f39) = true)
    (a40 : PySem.W.nsIn K mainGlobals "_law_is_int" = some (some (.ref f40))) (l40 : K.lookup f40 = some ⟨oc40, od40, .func (PySem.W.fnOf "_law_is_int" "_law_is_int" (defArgs sLawIsInt) (defBody sLawIsInt) (defScope sLawIsInt) .none kV40 dc40 pm40 an40 cd40 ct40), sl40⟩) (c40 : PySem.W.codeIn K cd40 "_law_is_int" = true) (k40 : PySem.W.keepIn K (.ref f40) = true)
    (a41 : PySem.W.nsIn K mainGlobals "_law_are_marks" = some (some (.ref f41))) (l41 : K.lookup f41 = some ⟨oc41, od41, .func (PySem.W.fnOf "_law_are_marks" "_law_are_marks" (defArgs sLawAreMarks) (defBody sLawAreMarks) (defScope sLawAreMarks) .none kV41 dc41 pm41 an41 cd41 ct41), sl41⟩) (c41 : PySem.W.codeIn K cd41 "_law_are_marks" = true) (k41 : PySem.W.keepIn K (.ref f41) = true)
    (a42 : PySem.W.nsIn K mainGlobals "_law_deep" = some (some (.ref f42))) (l42 : K.lookup f42 = some ⟨oc42, od42, .func (PySem.W.fnOf "_law_deep" "_law_deep" (defArgs sLawDeep) (defBody sLawDeep) (defScope sLawDeep) .none kV42 dc42 pm42 an42 cd42 ct42), sl42⟩) (c42 : PySem.W.codeIn K cd42 "_law_deep" = true) (k42 : PySem.W.keepIn K (.ref f42) = true)
    (a43 : PySem.W.nsIn K mainGlobals "_law_odd" = some (some (.ref f43))) (l43 : K.lookup f43 = some ⟨oc43, od43, .func (PySem.W.fnOf "_law_odd" "_law_odd" (defArgs sLawOdd) (defBody sLawOdd) (defScope sLawOdd) .none kV43 dc43 pm43 an43 cd43 ct43), sl43⟩) (c43 : PySem.W.codeIn K cd43 "_law_odd" = true) (k43 : PySem.W.keepIn K (.ref f43) = true)
    (a44 : PySem.W.nsIn K mainGlobals "_law_thing" = some (some (.ref f44))) (l44 : K.lookup f44 = some ⟨oc44, od44, .func (PySem.W.fnOf "_law_thing" "_law_thing" (defArgs sLawThing) (defBody sLawThing) (defScope sLawThing) .none kV44 dc44 pm44 an44 cd44 ct44), sl44⟩) (c44 : PySem.W.codeIn K cd44 "_law_thing" = true) (k44 : PySem.W.keepIn K (.ref f44) = true)
    (a45 : PySem.W.nsIn K mainGlobals "_law_told" = some (some (.ref f45))) (l45 : K.lookup f45 = some ⟨oc45, od45, .func (PySem.W.fnOf "_law_told" "_law_told" (defArgs sLawTold) (defBody sLawTold) (defScope sLawTold) .none kV45 dc45 pm45 an45 cd45 ct45), sl45⟩) (c45 : PySem.W.codeIn K cd45 "_law_told" = true) (k45 : PySem.W.keepIn K (.ref f45) = true)
    (a46 : PySem.W.nsIn K mainGlobals "law" = some (some (.ref f46))) (l46 : K.lookup f46 = some ⟨oc46, od46, .func (PySem.W.fnOf "law" "law" (defArgs sLaw) (defBody sLaw) (defScope sLaw) .none kV46 dc46 pm46 an46 cd46 ct46), sl46⟩) (c46 : PySem.W.codeIn K cd46 "law" = true) (k46 : PySem.W.keepIn K (.ref f46) = true)
    (a47 : PySem.W.findIn K (.ref C) "__init__" = some (some (.ref f47))) (i47 : PySem.W.isFn K (.ref f47) = true) (l47 : K.lookup f47 = some ⟨oc47, od47, .func (PySem.W.fnOf "__init__" "Table.__init__" (defArgs sTableInit) (defBody sTableInit) (defScope sTableInit) .none kV47 dc47 pm47 an47 cd47 ct47), sl47⟩) (c47 : PySem.W.codeIn K cd47 "Table.__init__" = true) (k47 : PySem.W.keepIn K (.ref f47) = true)
    (aCC : PySem.W.nsIn K mainGlobals "Table" = some (some (.ref C))) (pgCC : PySem.W.plainGet K C Str.empty = true) (hdCC : PySem.W.hasDictIn K C = true) (poCC : PySem.W.plainOver K C = true) (saCC : PySem.W.findIn K (.ref C) "__setattr__" = some (some (.builtin "object.__setattr__"))) (mkCC : PySem.W.makesIn K C = true) (kcCC : PySem.W.keepIn K (.ref C) = true)
    (nC_family : PySem.W.findIn K (.ref C) "family" = some none)
    (nC_forms : PySem.W.findIn K (.ref C) "forms" = some none)
    (a48 : PySem.W.findIn K (.ref CF) "__init__" = some (some (.ref f48))) (i48 : PySem.W.isFn K (.ref f48) = true) (l48 : K.lookup f48 = some ⟨oc48, od48, .func (PySem.W.fnOf "__init__" "Family.__init__" (defArgs sFamilyInit) (defBody sFamilyInit) (defScope sFamilyInit) .none kV48 dc48 pm48 an48 cd48 ct48), sl48⟩) (c48 : PySem.W.codeIn K cd48 "Family.__init__" = true) (k48 : PySem.W.keepIn K (.ref f48) = true)
    (aCCF : PySem.W.nsIn K mainGlobals "Family" = some (some (.ref CF))) (pgCCF : PySem.W.plainGet K CF Str.empty = true) (hdCCF : PySem.W.hasDictIn K CF = true) (poCCF : PySem.W.plainOver K CF = true) (saCCF : PySem.W.findIn K (.ref CF) "__setattr__" = some (some (.builtin "object.__setattr__"))) (mkCCF : PySem.W.makesIn K CF = true) (kcCCF : PySem.W.keepIn K (.ref CF) = true)
    (nCF_many : PySem.W.findIn K (.ref CF) "many" = some none)
    (nCF_cells : PySem.W.findIn K (.ref CF) "cells" = some none)
    (a49 : PySem.W.findIn K (.ref CB) "__init__" = some (some (.ref f49))) (i49 : PySem.W.isFn K (.ref f49) = true) (l49 : K.lookup f49 = some ⟨oc49, od49, .func (PySem.W.fnOf "__init__" "Book.__init__" (defArgs sBookInit) (defBody sBookInit) (defScope sBookInit) .none kV49 dc49 pm49 an49 cd49 ct49), sl49⟩) (c49 : PySem.W.codeIn K cd49 "Book.__init__" = true) (k49 : PySem.W.keepIn K (.ref f49) = true)
    (aCCB : PySem.W.nsIn K mainGlobals "Book" = some (some (.ref CB))) (pgCCB : PySem.W.plainGet K CB Str.empty = true) (hdCCB : PySem.W.hasDictIn K CB = true) (poCCB : PySem.W.plainOver K CB = true) (saCCB : PySem.W.findIn K (.ref CB) "__setattr__" = some (some (.builtin "object.__setattr__"))) (mkCCB : PySem.W.makesIn K CB = true) (kcCCB : PySem.W.keepIn K (.ref CB) = true)
    (nCB_manner : PySem.W.findIn K (.ref CB) "manner" = some none)
    (nCB_entries : PySem.W.findIn K (.ref CB) "entries" = some none)
    (nCB_weights : PySem.W.findIn K (.ref CB) "weights" = some none)
    (aCFormError : PySem.W.nsIn K mainGlobals "FormError" = some (some (.ref CFormError)))
    (aCNoCell : PySem.W.nsIn K mainGlobals "NoCell" = some (some (.ref CNoCell)))
    (xlNoCell : K.lookup CNoCell = some (excClassObj nmNoCell qnNoCell CNoCell NNoCell bsNoCell [.ref CFormError, .type "ValueError", .type "Exception", .type "BaseException", .type "object"] true snNoCell subNoCell abNoCell colNoCell ddNoCell maNoCell mbNoCell mcNoCell mdNoCell meNoCell "ValueError.__new__"))
    (saNoCell : PySem.W.findIn K (.ref CNoCell) "__setattr__" = some (some (.builtin "object.__setattr__")))
    (exNoCell : PySem.W.subIn K (.ref CNoCell) (.type "BaseException") = some true)
    (tyNoCell : PySem.W.typeIn K (.ref CNoCell) = some (.type "type"))
    (kpNoCell : PySem.W.keepIn K (.ref CNoCell) = true)
    (fiNoCell : PySem.W.findIn K (.ref CNoCell) "__init__" = some (some (.ref fNoCell)))
    (ftNoCell : PySem.W.typeIn K (.ref fNoCell) = some (.type "function"))
    (flNoCell : K.lookup fNoCell = some ⟨ocNoCell, odNoCell, .func (PySem.W.fnX "__init__" "NoCell.__init__" (defArgs sNoCellInit) (defBody sNoCellInit) (defScope sNoCellInit) [(("__class__" : Str), ccNoCell)] .none kVNoCell docNoCell pmNoCell anNoCell (.ref cdaNoCell) ctNoCell), slNoCell⟩)
    (cdNoCell : PySem.W.codeIn K (.ref cdaNoCell) "NoCell.__init__" = true)
    (coNoCell : K.lookup cdaNoCell = some ⟨ocANoCell, odANoCell, .fields vsNoCell, slANoCell⟩)
    (cvNoCell : vsNoCell[2]? = some (.str fileNoCell tfNoCell))
    (cfNoCell : ((l.prog.main.file : Str) == fileNoCell) = true)
    (ceNoCell : K.lookup ccNoCell = some ⟨ocBNoCell, odBNoCell, .cell (some (.ref CNoCell)), slBNoCell⟩)
    (mrNoCell : PySem.W.mroIn K CNoCell (.ref CNoCell) = some true)
    (suNoCell : PySem.W.ks_superIn K CNoCell CNoCell "__init__" = some (some (.builtin "ValueError.__init__")))
    (veNoCell : PySem.W.subIn K (.ref CNoCell) (.type "ValueError") = some true)
    (isNoCell : PySem.W.isClsIn K CNoCell = true)
    (gaNoCell : PySem.W.findIn K (.ref CNoCell) "__getattribute__" = some (some (.builtin "BaseException.__getattribute__")))
    (ggNoCell : PySem.W.findIn K (.ref CNoCell) "__getattr__" = some none)
    (hdNoCell : PySem.W.hasDictIn K CNoCell = true)
    (aCTooMany : PySem.W.nsIn K mainGlobals "TooMany" = some (some (.ref CTooMany)))
    (xlTooMany : K.lookup CTooMany = some (excClassObj nmTooMany qnTooMany CTooMany NTooMany bsTooMany [.ref CFormError, .type "ValueError", .type "Exception", .type "BaseException", .type "object"] true snTooMany subTooMany abTooMany colTooMany ddTooMany maTooMany mbTooMany mcTooMany mdTooMany meTooMany "ValueError.__new__"))
    (saTooMany : PySem.W.findIn K (.ref CTooMany) "__setattr__" = some (some (.builtin "object.__setattr__")))
    (exTooMany : PySem.W.subIn K (.ref CTooMany) (.type "BaseException") = some true)
    (tyTooMany : PySem.W.typeIn K (.ref CTooMany) = some (.type "type"))
    (kpTooMany : PySem.W.keepIn K (.ref CTooMany) = true)
    (fiTooMany : PySem.W.findIn K (.ref CTooMany) "__init__" = some (some (.ref fTooMany)))
    (ftTooMany : PySem.W.typeIn K (.ref fTooMany) = some (.type "function"))
    (flTooMany : K.lookup fTooMany = some ⟨ocTooMany, odTooMany, .func (PySem.W.fnX "__init__" "TooMany.__init__" (defArgs sTooManyInit) (defBody sTooManyInit) (defScope sTooManyInit) [(("__class__" : Str), ccTooMany)] .none kVTooMany docTooMany pmTooMany anTooMany (.ref cdaTooMany) ctTooMany), slTooMany⟩)
    (cdTooMany : PySem.W.codeIn K (.ref cdaTooMany) "TooMany.__init__" = true)
    (coTooMany : K.lookup cdaTooMany = some ⟨ocATooMany, odATooMany, .fields vsTooMany, slATooMany⟩)
    (cvTooMany : vsTooMany[2]? = some (.str fileTooMany tfTooMany))
    (cfTooMany : ((l.prog.main.file : Str) == fileTooMany) = true)
    (ceTooMany : K.lookup ccTooMany = some ⟨ocBTooMany, odBTooMany, .cell (some (.ref CTooMany)), slBTooMany⟩)
    (mrTooMany : PySem.W.mroIn K CTooMany (.ref CTooMany) = some true)
    (suTooMany : PySem.W.ks_superIn K CTooMany CTooMany "__init__" = some (some (.builtin "ValueError.__init__")))
    (veTooMany : PySem.W.subIn K (.ref CTooMany) (.type "ValueError") = some true)
    (isTooMany : PySem.W.isClsIn K CTooMany = true)
    (gaTooMany : PySem.W.findIn K (.ref CTooMany) "__getattribute__" = some (some (.builtin "BaseException.__getattribute__")))
    (ggTooMany : PySem.W.findIn K (.ref CTooMany) "__getattr__" = some none)
    (hdTooMany : PySem.W.hasDictIn K CTooMany = true)
    (noTooMany_most : PySem.W.findIn K (.ref CTooMany) "most" = some none)
    (opE : PySem.W.nsIn K cStatics "thirdparty.any" = some none)
    (z_super : PySem.W.nsIn K mainGlobals "super" = some none)
    (toE : (l.prog.main.scope.names.lookup ("super" : Str)).isSome = false)
    (sbNoCell_NoCell : PySem.W.subIn K (.ref CNoCell) (.ref CNoCell) = some true)
    (sbNoCell_TooMany : PySem.W.subIn K (.ref CNoCell) (.ref CTooMany) = some false)
    (sbTooMany_NoCell : PySem.W.subIn K (.ref CTooMany) (.ref CNoCell) = some false)
    (sbTooMany_TooMany : PySem.W.subIn K (.ref CTooMany) (.ref CTooMany) = some true)
    (hN : PySem.W.specialIn K (.builtin "object.__class__") "__get__" = some (some (.builtin "getset_descriptor.__get__")))
    (hT : PySem.W.takesIn K (.builtin "object.__class__") = some true)
    (hACNoCell : PySem.W.findIn K (.ref CNoCell) "__class__" = some (some (.builtin "object.__class__")))
    (hMCNoCell : PySem.W.mroIn K CNoCell (.type "object") = some true)
    (hACTooMany : PySem.W.findIn K (.ref CTooMany) "__class__" = some (some (.builtin "object.__class__")))
    (hMCTooMany : PySem.W.mroIn K CTooMany (.type "object") = some true)
    (exF : PySem.W.subIn K (.ref CFormError) (.type "BaseException") = some true)
    (isF : PySem.W.isClsIn K CFormError = true)
    (tyF : PySem.W.typeIn K (.ref CFormError) = some (.type "type"))
    (sfNoCell : PySem.W.subIn K (.ref CNoCell) (.ref CFormError) = some true)
    (sfTooMany : PySem.W.subIn K (.ref CTooMany) (.ref CFormError) = some true)
    (neNoCell_TooMany : ((Value.ref CNoCell) == (Value.ref CTooMany)) = false)
    (neTooMany_NoCell : ((Value.ref CTooMany) == (Value.ref CNoCell)) = false)
    (z_repr : PySem.W.nsIn K mainGlobals "repr" = some none)
    (z_len : PySem.W.nsIn K mainGlobals "len" = some none)
    (z_int : PySem.W.nsIn K mainGlobals "int" = some none)
    (z_abs : PySem.W.nsIn K mainGlobals "abs" = some none)
    (z_list : PySem.W.nsIn K mainGlobals "list" = some none)
    (z_tuple : PySem.W.nsIn K mainGlobals "tuple" = some none)
    (z_range : PySem.W.nsIn K mainGlobals "range" = some none)
    (z_min : PySem.W.nsIn K mainGlobals "min" = some none)
    (z_isinstance : PySem.W.nsIn K mainGlobals "isinstance" = some none)
    (z_enumerate : PySem.W.nsIn K mainGlobals "enumerate" = some none)
    (z_bool : PySem.W.nsIn K mainGlobals "bool" = some none)
    (z_str : PySem.W.nsIn K mainGlobals "str" = some none)
    (z_all : PySem.W.nsIn K mainGlobals "all" = some none)
    (z_any : PySem.W.nsIn K mainGlobals "any" = some none)
    (z_sum : PySem.W.nsIn K mainGlobals "sum" = some none)
    (z_max : PySem.W.nsIn K mainGlobals "max" = some none)
    (z_sorted : PySem.W.nsIn K mainGlobals "sorted" = some none)
    (z_zip : PySem.W.nsIn K mainGlobals "zip" = some none)
    (z_set : PySem.W.nsIn K mainGlobals "set" = some none)
    (g_LONGEST_FORM : PySem.W.nsIn K mainGlobals "LONGEST_FORM" = some (some (.int 8 u0)))
    (g_MOST_FORMS : PySem.W.nsIn K mainGlobals "MOST_FORMS" = some (some (.int 12 u1)))
    (g_MOST_MARKS : PySem.W.nsIn K mainGlobals "MOST_MARKS" = some (some (.int 6 u2)))
    (g_MOST_CELLS : PySem.W.nsIn K mainGlobals "MOST_CELLS" = some (some (.int 24 u3)))
    (g_MARKS : PySem.W.nsIn K mainGlobals "MARKS" = some (some (.int 6 u4)))
    (g_MOST_ENTRIES : PySem.W.nsIn K mainGlobals "MOST_ENTRIES" = some (some (.int 40 u5)))
    (g_MOST_WEIGHT : PySem.W.nsIn K mainGlobals "MOST_WEIGHT" = some (some (.int 1000000 u6)))
    (aM0 : PySem.W.nsIn K mainGlobals "MANNERS" = some (some (.ref aM))) (lM : K.lookup aM = some ⟨.type "tuple", odM, .seq #[.str "row" w0, .str "within" w1, .str "weights" w2, .str "most" w3] nM, slM⟩) :
    ∃ fd : FuncData, (∀ (s : Shared) (v : Value), BindsTo s fd ⟨[v], []⟩ [("script", v)]) ∧ ∀ base : Heap, K.In base → base.Ns mainGlobals mg → (∃ o, base.get? sysModules = some o) → FnG l.prog w K mg base 9 fa fd ["script"] (spLaw K) := by
  have e := hfa.symm.trans (PySem.W.mg_of X G a46)
  cases e
  have T : Txt mg := ⟨PySem.W.mg_none_of X G z_len, PySem.W.mg_none_of X G z_int, PySem.W.mg_none_of X G z_abs, PySem.W.mg_none_of X G z_list, PySem.W.mg_none_of X G z_tuple, PySem.W.mg_none_of X G z_range, PySem.W.mg_none_of X G z_min, PySem.W.mg_none_of X G z_isinstance, PySem.W.mg_none_of X G z_enumerate, PySem.W.mg_none_of X G z_bool, PySem.W.mg_none_of X G z_str, PySem.W.mg_none_of X G z_all, PySem.W.mg_none_of X G z_any, PySem.W.mg_none_of X G z_sum, PySem.W.mg_none_of X G z_max, PySem.W.mg_none_of X G z_sorted, PySem.W.mg_none_of X G z_zip, PySem.W.mg_none_of X G z_set⟩
  have oeNoCell : OexC K CNoCell := ⟨⟨nmNoCell, qnNoCell, NNoCell, bsNoCell, _, snNoCell, subNoCell, abNoCell, colNoCell, ddNoCell, maNoCell, mbNoCell, mcNoCell, mdNoCell, meNoCell, xlNoCell, (show PySem.HandSPX.refsVE [.type "ValueError", .type "Exception", .type "BaseException", .type "object"] = true by decide +kernel)⟩, saNoCell, exNoCell, tyNoCell, kpNoCell⟩
  have xcNoCell : XCls l.prog K mg CNoCell fNoCell ccNoCell (nNoCell ccNoCell cdaNoCell) := ⟨oeNoCell, ⟨_, _, _, _, _, _, _, _, flNoCell⟩, rfl, cdNoCell, ⟨_, _, _, _, _, _, coNoCell, cvNoCell, cfNoCell⟩, ⟨_, _, _, ceNoCell⟩, mrNoCell, suNoCell, veNoCell, opE, PySem.W.mg_none_of X G z_super, toE⟩
  have xfNoCell : XfC K CNoCell := ⟨gaNoCell, ggNoCell, exNoCell, hdNoCell⟩
  have caNoCell : Catch K mg "NoCell" CNoCell := ⟨PySem.W.mg_of X G aCNoCell, exNoCell, isNoCell, tyNoCell⟩
  have oeTooMany : OexC K CTooMany := ⟨⟨nmTooMany, qnTooMany, NTooMany, bsTooMany, _, snTooMany, subTooMany, abTooMany, colTooMany, ddTooMany, maTooMany, mbTooMany, mcTooMany, mdTooMany, meTooMany, xlTooMany, (show PySem.HandSPX.refsVE [.type "ValueError", .type "Exception", .type "BaseException", .type "object"] = true by decide +kernel)⟩, saTooMany, exTooMany, tyTooMany, kpTooMany⟩
  have xcTooMany : XCls l.prog K mg CTooMany fTooMany ccTooMany (nTooMany ccTooMany cdaTooMany) := ⟨oeTooMany, ⟨_, _, _, _, _, _, _, _, flTooMany⟩, rfl, cdTooMany, ⟨_, _, _, _, _, _, coTooMany, cvTooMany, cfTooMany⟩, ⟨_, _, _, ceTooMany⟩, mrTooMany, suTooMany, veTooMany, opE, PySem.W.mg_none_of X G z_super, toE⟩
  have xfTooMany : XfC K CTooMany := ⟨gaTooMany, ggTooMany, exTooMany, hdTooMany⟩
  have caTooMany : Catch K mg "TooMany" CTooMany := ⟨PySem.W.mg_of X G aCTooMany, exTooMany, isTooMany, tyTooMany⟩
  have cF : FormCst mg := ⟨u0, PySem.W.mg_of X G g_LONGEST_FORM⟩
  have cT : TabCst mg := ⟨u1, PySem.W.mg_of X G g_MOST_FORMS⟩
  have cM : FamCst mg := ⟨u2, u3, PySem.W.mg_of X G g_MOST_MARKS, PySem.W.mg_of X G g_MOST_CELLS⟩
  have cB : Cst mg := ⟨u0, u4, u5, u6, PySem.W.mg_of X G g_LONGEST_FORM, PySem.W.mg_of X G g_MARKS, PySem.W.mg_of X G g_MOST_ENTRIES, PySem.W.mg_of X G g_MOST_WEIGHT⟩
  have TT : TabTxt K mg C := ⟨⟨pgCC, hdCC, poCC, saCC⟩, nC_family, nC_forms, PySem.W.mg_of X G aCC⟩
  have FT : FamTxt K mg CF := ⟨⟨pgCCF, hdCCF, poCCF, saCCF⟩, nCF_many, nCF_cells, PySem.W.mg_of X G aCCF⟩
  have BT : BkTxt K mg CB aM := ⟨⟨pgCCB, hdCCB, poCCB, saCCB⟩, nCB_manner, nCB_entries, nCB_weights, PySem.W.mg_of X G aCCB, PySem.W.mg_of X G aM0, fun H => .inr ⟨_, _, _, lM, rfl, rfl, (by show 4 ≤ sizeLine; decide), .cons ⟨_, rfl⟩ (.cons ⟨_, rfl⟩ (.cons ⟨_, rfl⟩ (.cons ⟨_, rfl⟩ (.nil))))⟩⟩
  have cFE : Catch K mg "FormError" CFormError := ⟨PySem.W.mg_of X G aCFormError, exF, isF, tyF⟩
  have ecNoCell : ExcC K CNoCell := ⟨gaNoCell, ggNoCell, exNoCell, hdNoCell, hACNoCell, hN, hT, hMCNoCell⟩
  have ecTooMany : ExcC K CTooMany := ⟨gaTooMany, ggTooMany, exTooMany, hdTooMany, hACTooMany, hN, hT, hMCTooMany⟩
  have kkF : Kit2 K CNoCell CTooMany := ⟨kit_own _, kit_not isTooMany tyTooMany sbNoCell_TooMany neNoCell_TooMany, kit_not isNoCell tyNoCell sbTooMany_NoCell neTooMany_NoCell, kit_own _⟩
  have F_is_integer := fun_mk (st := sIsInteger) l0 c0 k0
  have b_is_integer := F_is_integer.binds (ps := ["thing"]) fun _ _ _ _ _ _ us hl => match us, hl with | [_], _ => rfl
  have F_is_between := fun_mk (st := sIsBetween) l1 c1 k1
  have b_is_between := F_is_between.binds (ps := ["low", "high", "thing"]) fun _ _ _ _ _ _ us hl => match us, hl with | [_, _, _], _ => rfl
  have F_is_cell := fun_mk (st := sIsCell) l2 c2 k2
  have b_is_cell := F_is_cell.binds (ps := ["many", "thing"]) fun _ _ _ _ _ _ us hl => match us, hl with | [_, _], _ => rfl
  have F_is_form := fun_mk (st := sIsForm) l3 c3 k3
  have b_is_form := F_is_form.binds (ps := ["thing"]) fun _ _ _ _ _ _ us hl => match us, hl with | [_], _ => rfl
  have F_lies_within := fun_mk (st := sLiesWithin) l4 c4 k4
  have b_lies_within := F_lies_within.binds (ps := ["inner", "outer"]) fun _ _ _ _ _ _ us hl => match us, hl with | [_, _], _ => rfl
  have F_are_forms := fun_mk (st := sAreForms) l5 c5 k5
  have b_are_forms := F_are_forms.binds (ps := ["length", "thing"]) fun _ _ _ _ _ _ us hl => match us, hl with | [_, _], _ => rfl
  have F_unlike := fun_mk (st := sUnlike) l6 c6 k6
  have b_unlike := F_unlike.binds (ps := ["forms"]) fun _ _ _ _ _ _ us hl => match us, hl with | [_], _ => rfl
  have F_limited := fun_mk (st := sLimited) l7 c7 k7
  have b_limited := F_limited.binds (ps := ["family", "forms"]) fun _ _ _ _ _ _ us hl => match us, hl with | [_, _], _ => rfl
  have F_is_entry := fun_mk (st := sIsEntry) l8 c8 k8
  have b_is_entry := F_is_entry.binds (ps := ["thing"]) fun _ _ _ _ _ _ us hl => match us, hl with | [_], _ => rfl
  have F_are_entries := fun_mk (st := sAreEntries) l9 c9 k9
  have b_are_entries := F_are_entries.binds (ps := ["thing"]) fun _ _ _ _ _ _ us hl => match us, hl with | [_], _ => rfl
  have F_are_weights := fun_mk (st := sAreWeights) l10 c10 k10
  have b_are_weights := F_are_weights.binds (ps := ["manner", "thing"]) fun _ _ _ _ _ _ us hl => match us, hl with | [_, _], _ => rfl
  have F_fitting := fun_mk (st := sFitting) l11 c11 k11
  have b_fitting := F_fitting.binds (ps := ["book", "cell"]) fun _ _ _ _ _ _ us hl => match us, hl with | [_, _], _ => rfl
  have F_rank := fun_mk (st := sRank) l12 c12 k12
  have b_rank := F_rank.binds (ps := ["book", "number"]) fun _ _ _ _ _ _ us hl => match us, hl with | [_, _], _ => rfl
  have F_highest := fun_mk (st := sHighest) l13 c13 k13
  have b_highest := F_highest.binds (ps := ["book", "numbers"]) fun _ _ _ _ _ _ us hl => match us, hl with | [_, _], _ => rfl
  have F_speaking := fun_mk (st := sSpeaking) l14 c14 k14
  have b_speaking := F_speaking.binds (ps := ["book", "numbers"]) fun _ _ _ _ _ _ us hl => match us, hl with | [_, _], _ => rfl
  have F_holds_all := fun_mk (st := sHoldsAll) l15 c15 k15
  have b_holds_all := F_holds_all.binds (ps := ["book", "number", "numbers"]) fun _ _ _ _ _ _ us hl => match us, hl with | [_, _, _], _ => rfl
  have F_is_outdone := fun_mk (st := sIsOutdone) l16 c16 k16
  have b_is_outdone := F_is_outdone.binds (ps := ["book", "number", "numbers"]) fun _ _ _ _ _ _ us hl => match us, hl with | [_, _, _], _ => rfl
  have F_in_quarrel := fun_mk (st := sInQuarrel) l17 c17 k17
  have b_in_quarrel := F_in_quarrel.binds (ps := ["book", "numbers"]) fun _ _ _ _ _ _ us hl => match us, hl with | [_, _], _ => rfl
  have F_speaker := fun_mk (st := sSpeaker) l18 c18 k18
  have b_speaker := F_speaker.binds (ps := ["book", "cell"]) fun _ _ _ _ _ _ us hl => match us, hl with | [_, _], _ => rfl
  have F_form_among := fun_mk (st := sFormAmong) l19 c19 k19
  have b_form_among := F_form_among.binds (ps := ["book", "numbers"]) fun _ _ _ _ _ _ us hl => match us, hl with | [_, _], _ => rfl
  have F_form_at := fun_mk (st := sFormAt) l20 c20 k20
  have b_form_at := F_form_at.binds (ps := ["book", "cell"]) fun _ _ _ _ _ _ us hl => match us, hl with | [_, _], _ => rfl
  have F_forms_made := fun_mk (st := sFormsMade) l21 c21 k21
  have b_forms_made := F_forms_made.binds (ps := ["book", "family"]) fun _ _ _ _ _ _ us hl => match us, hl with | [_, _], _ => rfl
  have F_made := fun_mk (st := sMade) l22 c22 k22
  have b_made := F_made.binds (ps := ["book", "family"]) fun _ _ _ _ _ _ us hl => match us, hl with | [_, _], _ => rfl
  have F_are_cells := fun_mk (st := sAreCells) l23 c23 k23
  have b_are_cells := F_are_cells.binds (ps := ["many", "thing"]) fun _ _ _ _ _ _ us hl => match us, hl with | [_, _], _ => rfl
  have F_law_deck := fun_mk (st := sLawDeck) l24 c24 k24
  have b_law_deck := F_law_deck.binds (ps := ["script"]) fun _ _ _ _ _ _ us hl => match us, hl with | [_], _ => rfl
  have F_law_take := fun_mk (st := sLawTake) l25 c25 k25
  have b_law_take := F_law_take.binds (ps := ["deck", "many"]) fun _ _ _ _ _ _ us hl => match us, hl with | [_, _], _ => rfl
  have F_law_mixed := fun_mk (st := sLawMixed) l26 c26 k26
  have b_law_mixed := F_law_mixed.binds (ps := ["deck", "things"]) fun _ _ _ _ _ _ us hl => match us, hl with | [_, _], _ => rfl
  have F_law_word := fun_mk (st := sLawWord) l27 c27 k27
  have b_law_word := F_law_word.binds (ps := ["deck"]) fun _ _ _ _ _ _ us hl => match us, hl with | [_], _ => rfl
  have F_law_words := fun_mk (st := sLawWords) l28 c28 k28
  have b_law_words := F_law_words.binds (ps := ["deck", "most"]) fun _ _ _ _ _ _ us hl => match us, hl with | [_, _], _ => rfl
  have F_law_lots := fun_mk (st := sLawLots) l29 c29 k29
  have b_law_lots := F_law_lots.binds (ps := ["items"]) fun _ _ _ _ _ _ us hl => match us, hl with | [_], _ => rfl
  have F_law_in := fun_mk (st := sLawIn) l30 c30 k30
  have b_law_in := F_law_in.binds (ps := ["one", "other"]) fun _ _ _ _ _ _ us hl => match us, hl with | [_, _], _ => rfl
  have F_law_proper := fun_mk (st := sLawProper) l31 c31 k31
  have b_law_proper := F_law_proper.binds (ps := ["one", "other"]) fun _ _ _ _ _ _ us hl => match us, hl with | [_, _], _ => rfl
  have F_law_marks := fun_mk (st := sLawMarks) l32 c32 k32
  have b_law_marks := F_law_marks.binds (ps := ["deck", "cells"]) fun _ _ _ _ _ _ us hl => match us, hl with | [_, _], _ => rfl
  have F_law_entries := fun_mk (st := sLawEntries) l33 c33 k33
  have b_law_entries := F_law_entries.binds (ps := ["deck", "cells", "words", "most"]) fun _ _ _ _ _ _ us hl => match us, hl with | [_, _, _, _], _ => rfl
  have F_law_weights := fun_mk (st := sLawWeights) l34 c34 k34
  have b_law_weights := F_law_weights.binds (ps := ["deck"]) fun _ _ _ _ _ _ us hl => match us, hl with | [_], _ => rfl
  have F_law_sum := fun_mk (st := sLawSum) l35 c35 k35
  have b_law_sum := F_law_sum.binds (ps := ["weights", "marks"]) fun _ _ _ _ _ _ us hl => match us, hl with | [_, _], _ => rfl
  have F_law_fits := fun_mk (st := sLawFits) l36 c36 k36
  have b_law_fits := F_law_fits.binds (ps := ["entries", "cell"]) fun _ _ _ _ _ _ us hl => match us, hl with | [_, _], _ => rfl
  have F_law_beats := fun_mk (st := sLawBeats) l37 c37 k37
  have b_law_beats := F_law_beats.binds (ps := ["manner", "weights", "one", "other"]) fun _ _ _ _ _ _ us hl => match us, hl with | [_, _, _, _], _ => rfl
  have F_law_speaks := fun_mk (st := sLawSpeaks) l38 c38 k38
  have b_law_speaks := F_law_speaks.binds (ps := ["manner", "entries", "weights", "cell"]) fun _ _ _ _ _ _ us hl => match us, hl with | [_, _, _, _], _ => rfl
  have F_law_form_at := fun_mk (st := sLawFormAt) l39 c39 k39
  have b_law_form_at := F_law_form_at.binds (ps := ["manner", "entries", "weights", "cell"]) fun _ _ _ _ _ _ us hl => match us, hl with | [_, _, _, _], _ => rfl
  have F_law_is_int := fun_mk (st := sLawIsInt) l40 c40 k40
  have b_law_is_int := F_law_is_int.binds (ps := ["thing"]) fun _ _ _ _ _ _ us hl => match us, hl with | [_], _ => rfl
  have F_law_are_marks := fun_mk (st := sLawAreMarks) l41 c41 k41
  have b_law_are_marks := F_law_are_marks.binds (ps := ["thing", "many"]) fun _ _ _ _ _ _ us hl => match us, hl with | [_, _], _ => rfl
  have F_law_deep := fun_mk (st := sLawDeep) l42 c42 k42
  have b_law_deep := F_law_deep.binds (ps := ["deck"]) fun _ _ _ _ _ _ us hl => match us, hl with | [_], _ => rfl
  have F_law_odd := fun_mk (st := sLawOdd) l43 c43 k43
  have b_law_odd := F_law_odd.binds (ps := ["deck"]) fun _ _ _ _ _ _ us hl => match us, hl with | [_], _ => rfl
  have F_law_thing := fun_mk (st := sLawThing) l44 c44 k44
  have b_law_thing := F_law_thing.binds (ps := ["deck"]) fun _ _ _ _ _ _ us hl => match us, hl with | [_], _ => rfl
  have F_law_told := fun_mk (st := sLawTold) l45 c45 k45
  have b_law_told := F_law_told.binds (ps := ["which", "book", "thing"]) fun _ _ _ _ _ _ us hl => match us, hl with | [_, _, _], _ => rfl
  have F_law := fun_mk (st := sLaw) l46 c46 k46
  have b_law := F_law.binds (ps := ["script"]) fun _ _ _ _ _ _ us hl => match us, hl with | [_], _ => rfl
  have F_initC := fun_mk (st := sTableInit) l47 c47 k47
  have b_initC := F_initC.binds (ps := ["self", "family", "forms"]) fun _ _ _ _ _ _ us hl => match us, hl with | [_, _, _], _ => rfl
  have F_initCF := fun_mk (st := sFamilyInit) l48 c48 k48
  have b_initCF := F_initCF.binds (ps := ["self", "many", "cells"]) fun _ _ _ _ _ _ us hl => match us, hl with | [_, _, _], _ => rfl
  have F_initCB := fun_mk (st := sBookInit) l49 c49 k49
  have b_initCB := F_initCB.binds (ps := ["self", "manner", "entries", "weights"]) fun _ _ _ _ _ _ us hl => match us, hl with | [_, _, _, _], _ => rfl
  refine ⟨PySem.W.fnOf "law" "law" (defArgs sLaw) (defBody sLaw) (defScope sLaw) .none kV46 dc46 pm46 an46 cd46 ct46, fun s v => .of_eq rfl, fun base _ _ hS => ?_⟩
  have heNoCell : ErrC l.prog w K mg base "NoCell" CNoCell ["self"] (spX0 CNoCell) := err_NoCell xcNoCell fiNoCell ftNoCell (PySem.W.mg_of X G aCNoCell)
  have heTooMany : ErrC l.prog w K mg base "TooMany" CTooMany ["self", "most"] (spX1 CTooMany "most") := err_TooMany xcTooMany noTooMany_most fiTooMany ftTooMany (PySem.W.mg_of X G aCTooMany)
  have HT : Has l.prog w K mg base "_law_take" ["deck", "many"] 1 spTake := ⟨f25, _, ok_take F_law_take T, PySem.W.mg_of X G a25, k25, b_law_take⟩
  have HD : Has l.prog w K mg base "_law_deck" ["script"] 1 (spDeck K) := ⟨f24, _, ok_deck F_law_deck T, PySem.W.mg_of X G a24, k24, b_law_deck⟩
  have HM : Has l.prog w K mg base "_law_mixed" ["deck", "things"] 2 (spMixed K) := ⟨f26, _, ok_mixed F_law_mixed T HT, PySem.W.mg_of X G a26, k26, b_law_mixed⟩
  have HWd : Has l.prog w K mg base "_law_word" ["deck"] 2 spWord := ⟨f27, _, ok_word F_law_word T HT, PySem.W.mg_of X G a27, k27, b_law_word⟩
  have HWs : Has l.prog w K mg base "_law_words" ["deck", "most"] 3 spWords := ⟨f28, _, ok_words F_law_words T HT HWd, PySem.W.mg_of X G a28, k28, b_law_words⟩
  have HL : Has l.prog w K mg base "_law_lots" ["items"] 1 (spLots K) := ⟨f29, _, ok_lots F_law_lots, PySem.W.mg_of X G a29, k29, b_law_lots⟩
  have HIn : Has l.prog w K mg base "_law_in" ["one", "other"] 1 spIn := ⟨f30, _, ok_in F_law_in T, PySem.W.mg_of X G a30, k30, b_law_in⟩
  have HMk : Has l.prog w K mg base "_law_marks" ["deck", "cells"] 2 (spMarks K) := ⟨f32, _, ok_marks F_law_marks T HT, PySem.W.mg_of X G a32, k32, b_law_marks⟩
  have HEn : Has l.prog w K mg base "_law_entries" ["deck", "cells", "words", "most"] 3 (spEntries K) := ⟨f33, _, ok_entries F_law_entries T HT HMk, PySem.W.mg_of X G a33, k33, b_law_entries⟩
  have HWt : Has l.prog w K mg base "_law_weights" ["deck"] 2 spWeights := ⟨f34, _, ok_weightsL F_law_weights T HT, PySem.W.mg_of X G a34, k34, b_law_weights⟩
  have HFt : Has l.prog w K mg base "_law_fits" ["entries", "cell"] 2 (spFits K) := ⟨f36, _, ok_fits F_law_fits T HIn, PySem.W.mg_of X G a36, k36, b_law_fits⟩
  have HPr : Has l.prog w K mg base "_law_proper" ["one", "other"] 2 spProper := ⟨f31, _, ok_proper F_law_proper T HIn, PySem.W.mg_of X G a31, k31, b_law_proper⟩
  have HSu : Has l.prog w K mg base "_law_sum" ["weights", "marks"] 1 spSum := ⟨f35, _, ok_sum F_law_sum T, PySem.W.mg_of X G a35, k35, b_law_sum⟩
  have HBe : Has l.prog w K mg base "_law_beats" ["manner", "weights", "one", "other"] 3 spBeats := ⟨f37, _, ok_beats F_law_beats T HPr HSu, PySem.W.mg_of X G a37, k37, b_law_beats⟩
  have HLS : Has l.prog w K mg base "_law_speaks" ["manner", "entries", "weights", "cell"] 4 (spLawWho K) := ⟨f38, _, ok_lawWho (ok_speaks F_law_speaks T HFt HBe) (ok_speaksRow F_law_speaks T HFt), PySem.W.mg_of X G a38, k38, b_law_speaks⟩
  have HLF : Has l.prog w K mg base "_law_form_at" ["manner", "entries", "weights", "cell"] 5 (spLawHeard K) := ⟨f39, _, ok_lawFormAt F_law_form_at HLS, PySem.W.mg_of X G a39, k39, b_law_form_at⟩
  have HI : Has l.prog w K mg base "is_integer" ["thing"] 1 spIsInteger := ⟨f0, _, ok_integer F_is_integer T, PySem.W.mg_of X G a0, k0, b_is_integer⟩
  have HB : Has l.prog w K mg base "is_between" ["low", "high", "thing"] 2 spBetween := ⟨f1, _, ok_between F_is_between HI, PySem.W.mg_of X G a1, k1, b_is_between⟩
  have HCe : Has l.prog w K mg base "is_cell" ["many", "thing"] 3 spIsCell := ⟨f2, _, ok_cell F_is_cell T HB, PySem.W.mg_of X G a2, k2, b_is_cell⟩
  have HId : Has l.prog w K mg base "is_integer" ["thing"] 1 spIntD := ⟨f0, _, okd_integer F_is_integer T, PySem.W.mg_of X G a0, k0, b_is_integer⟩
  have HBd : Has l.prog w K mg base "is_between" ["low", "high", "thing"] 2 spBtwD := ⟨f1, _, okd_between F_is_between HId, PySem.W.mg_of X G a1, k1, b_is_between⟩
  have HCd : Has l.prog w K mg base "is_cell" ["many", "thing"] 3 spCellD := ⟨f2, _, okd_cell F_is_cell T HBd, PySem.W.mg_of X G a2, k2, b_is_cell⟩
  have HF : Has l.prog w K mg base "is_form" ["thing"] 1 spIsForm := ⟨f3, _, ok_form F_is_form T cF, PySem.W.mg_of X G a3, k3, b_is_form⟩
  have HLi : Has l.prog w K mg base "lies_within" ["inner", "outer"] 1 spLies := ⟨f4, _, ok_lies F_lies_within, PySem.W.mg_of X G a4, k4, b_lies_within⟩
  have HU : Has l.prog w K mg base "_unlike" ["forms"] 1 spUnlike := ⟨f6, _, ok_unlike F_unlike T, PySem.W.mg_of X G a6, k6, b_unlike⟩
  have HAf : Has l.prog w K mg base "_are_forms" ["length", "thing"] 2 spAreForms := ⟨f5, _, ok_areForms F_are_forms T cT HF HU, PySem.W.mg_of X G a5, k5, b_are_forms⟩
  have HAc : Has l.prog w K mg base "_are_cells" ["many", "thing"] 4 spAreCells := ⟨f23, _, ok_areCells F_are_cells T T.set cM HCe, PySem.W.mg_of X G a23, k23, b_are_cells⟩
  have HFm : HasC l.prog w K mg base "Family" CF ["self", "many", "cells"] 5 (spFam CF) := ⟨f48, _, ok_fam F_initCF T cM FT HB HAc, ⟨mkCCF, a48, i48, kcCCF⟩, PySem.W.mg_of X G aCCF, b_initCF⟩
  have HTb : HasC l.prog w K mg base "Table" C ["self", "family", "forms"] 3 (spTab CF C) := ⟨f47, _, ok_table F_initC T TT FT HAf, ⟨mkCC, a47, i47, kcCC⟩, PySem.W.mg_of X G aCC, b_initC⟩
  have HE : Has l.prog w K mg base "is_entry" ["thing"] 4 spIsEntry := ⟨f8, _, ok_entry F_is_entry T cB HCe HF, PySem.W.mg_of X G a8, k8, b_is_entry⟩
  have HAe : Has l.prog w K mg base "_are_entries" ["thing"] 5 spAreEntries := ⟨f9, _, ok_are F_are_entries T cB HE, PySem.W.mg_of X G a9, k9, b_are_entries⟩
  have HWe : Has l.prog w K mg base "_are_weights" ["manner", "thing"] 3 spAreWeights := ⟨f10, _, ok_weights F_are_weights T cB HB, PySem.W.mg_of X G a10, k10, b_are_weights⟩
  have HBk : HasC l.prog w K mg base "Book" CB ["self", "manner", "entries", "weights"] 6 (spBook CB) := ⟨f49, _, ok_book F_initCB T BT HAe HWe, ⟨mkCCB, a49, i49, kcCCB⟩, PySem.W.mg_of X G aCCB, b_initCB⟩
  have HFi : Has l.prog w K mg base "fitting" ["book", "cell"] 4 (spFitting CB) := ⟨f11, _, ok_fitting F_fitting T cB BT HCe HLi, PySem.W.mg_of X G a11, k11, b_fitting⟩
  have HRk : Has l.prog w K mg base "rank" ["book", "number"] 1 (spRank CB) := ⟨f12, _, ok_rank F_rank T BT, PySem.W.mg_of X G a12, k12, b_rank⟩
  have HHi : Has l.prog w K mg base "_highest" ["book", "numbers"] 2 (spHighest CB) := ⟨f13, _, ok_highest F_highest T HRk, PySem.W.mg_of X G a13, k13, b_highest⟩
  have HHo : Has l.prog w K mg base "_holds_all" ["book", "number", "numbers"] 2 (spHolds CB) := ⟨f15, _, ok_holds F_holds_all T BT HLi, PySem.W.mg_of X G a15, k15, b_holds_all⟩
  have HOu : Has l.prog w K mg base "_is_outdone" ["book", "number", "numbers"] 2 (spOutdone CB) := ⟨f16, _, ok_outdone F_is_outdone T BT HLi, PySem.W.mg_of X G a16, k16, b_is_outdone⟩
  have HQu : Has l.prog w K mg base "_in_quarrel" ["book", "numbers"] 3 (spQuarrel CB) := ⟨f17, _, ok_quarrel F_in_quarrel T BT HHi HOu, PySem.W.mg_of X G a17, k17, b_in_quarrel⟩
  have HSk : Has l.prog w K mg base "speaking" ["book", "numbers"] 3 (spSpeaking CB) := ⟨f14, _, ok_speaking F_speaking T BT HHi HHo, PySem.W.mg_of X G a14, k14, b_speaking⟩
  have HSr : Has l.prog w K mg base "speaking" ["book", "numbers"] 1 (spSpeakingRow CB) := ⟨f14, _, ok_speakingRow F_speaking BT, PySem.W.mg_of X G a14, k14, b_speaking⟩
  have HSp : Has l.prog w K mg base "speaking" ["book", "numbers"] 3 (spWho CB) := ⟨f14, _, ok_who (ok_speaking F_speaking T BT HHi HHo) (ok_speakingRow F_speaking BT), PySem.W.mg_of X G a14, k14, b_speaking⟩
  have HAm : Has l.prog w K mg base "form_among" ["book", "numbers"] 4 (spHeardN CB) := ⟨f19, _, ok_among F_form_among BT HSp, PySem.W.mg_of X G a19, k19, b_form_among⟩
  have HFA : Has l.prog w K mg base "_form_at" ["book", "cell"] 5 (spHeard CB) := ⟨f20, _, ok_formAt F_form_at HFi HAm, PySem.W.mg_of X G a20, k20, b_form_at⟩
  have HFM : Has l.prog w K mg base "forms_made" ["book", "family"] 6 (spFormsMade CF CB) := ⟨f21, _, ok_formsMade F_forms_made T FT HFA, PySem.W.mg_of X G a21, k21, b_forms_made⟩
  have HFb : HasR l.prog w K mg base "fitting" ["book", "cell"] 4 (spFitBad CNoCell) := ⟨⟨f11, _, okd_fittingBad F_fitting cB HCd heNoCell, PySem.W.mg_of X G a11, k11, b_fitting⟩⟩
  have HFx : HasR l.prog w K mg base "fitting" ["book", "cell"] 4 (spFitAny CB CNoCell) := ⟨⟨f11, _, ok_eitherX (okd_fittingBad F_fitting cB HCd heNoCell) (FnOk.lift (ok_fitting F_fitting T cB BT HCe HLi)), PySem.W.mg_of X G a11, k11, b_fitting⟩⟩
  have HSx : HasR l.prog w K mg base "speaker" ["book", "cell"] 5 (spSpeakAny CB CNoCell) := ⟨⟨f18, _, ok_eitherX (okd_speakerBad F_speaker HFb) (ok_eitherX (FnOk.lift (ok_speaker F_speaker BT HFi HSk HQu)) (FnOk.lift (ok_speakerRow F_speaker HFi HSr))), PySem.W.mg_of X G a18, k18, b_speaker⟩⟩
  have HLm : HasR l.prog w K mg base "limited" ["family", "forms"] 5 (spLimitX CF C CTooMany) := ⟨⟨f7, _, okd_limited F_limited T cT HU heTooMany HTb, PySem.W.mg_of X G a7, k7, b_limited⟩⟩
  have HMd : HasR l.prog w K mg base "made" ["book", "family"] 7 (spMadeX CF C CB CTooMany) := ⟨⟨f22, _, okd_made F_made HFM HLm, PySem.W.mg_of X G a22, k22, b_made⟩⟩
  have HLI : Has l.prog w K mg base "_law_is_int" ["thing"] 1 spIntD := ⟨f40, _, okd_lawIsInt F_law_is_int T, PySem.W.mg_of X G a40, k40, b_law_is_int⟩
  have HLM : Has l.prog w K mg base "_law_are_marks" ["thing", "many"] 2 spMarksD := ⟨f41, _, okd_lawAreMarks F_law_are_marks T HLI, PySem.W.mg_of X G a41, k41, b_law_are_marks⟩
  have HDe : Has l.prog w K mg base "_law_deep" ["deck"] 2 spDeep := ⟨f42, _, ok_deep F_law_deep T HT, PySem.W.mg_of X G a42, k42, b_law_deep⟩
  have HO : Has l.prog w K mg base "_law_odd" ["deck"] 3 spOdd := ⟨f43, _, ok_odd F_law_odd T HT HDe, PySem.W.mg_of X G a43, k43, b_law_odd⟩
  have HTh : Has l.prog w K mg base "_law_thing" ["deck"] 4 spThing := ⟨f44, _, ok_thing F_law_thing T HT HO, PySem.W.mg_of X G a44, k44, b_law_thing⟩
  have HTo : Has l.prog w K mg base "_law_told" ["which", "book", "thing"] 8 (spTold CF CB) := ⟨f45, _, ok_told F_law_told T cFE sfNoCell sfTooMany ecNoCell ecTooMany (PySem.W.mg_of X G aCNoCell) (PySem.W.mg_of X G aCTooMany) kkF xfTooMany noTooMany_most HSx HFx HMd, PySem.W.mg_of X G a45, k45, b_law_told⟩
  exact ok_law F_law T (PySem.W.mg_none_of X G z_repr) hS HT HD HL HM HWs HEn HWt HTh HLM HTo HLF HFm HBk
end Xci
open PySem PySem.W PyProof.Rows in
set_option maxRecDepth 100000 in
set_option maxHeartbeats 0 in
theorem PySem.Challenge.cw_sameforms_k17_questions_of_books_refused_holds : PySem.Challenge.rw_sameforms_k17_questions_of_books_refused.Holds := by
  w_on; o_law; k_head; (case hw => w_witness2)
  k_fill
  refine Xci.walkG (l := PySem.Challenge.rw_sameforms_k17_questions_of_books_refused) (k := 9) (sp := Xci.spLaw) rfl rfl (by decide +kernel) ⟨rfl, by decide, by decide⟩ (fun w h Y => PySem.W.kIn_of Y) ?F (fun K H a ns hl hS => ⟨a, ns, rfl, hS, hl, fun _ => rfl⟩)
  case F =>
    intro w mg fa h KX G hmg
    refine' Xci.all_mk KX G hmg ?a0 ?l0 ?c0 ?k0 ?a1 ?l1 ?c1 ?k1 ?a2 ?l2 ?c2 ?k2 ?a3 ?l3 ?c3 ?k3 ?a4 ?l4 ?c4 ?k4 ?a5 ?l5 ?c5 ?k5 ?a6 ?l6 ?c6 ?k6 ?a7 ?l7 ?c7 ?k7 ?a8 ?l8 ?c8 ?k8 ?a9 ?l9 ?c9 ?k9 ?a10 ?l10 ?c10 ?k10 ?a11 ?l11 ?c11 ?k11 ?a12 ?l12 ?c12 ?k12 ?a13 ?l13 ?c13 ?k13 ?a14 ?l14 ?c14 ?k14 ?a15 ?l15 ?c15 ?k15 ?a16 ?l16 ?c16 ?k16 ?a17 ?l17 ?c17 ?k17 ?a18 ?l18 ?c18 ?k18 ?a19 ?l19 ?c19 ?k19 ?a20 ?l20 ?c20 ?k20 ?a21 ?l21 ?c21 ?k21 ?a22 ?l22 ?c22 ?k22 ?a23 ?l23 ?c23 ?k23 ?a24 ?l24 ?c24 ?k24 ?a25 ?l25 ?c25 ?k25 ?a26 ?l26 ?c26 ?k26 ?a27 ?l27 ?c27 ?k27 ?a28 ?l28 ?c28 ?k28 ?a29 ?l29 ?c29 ?k29 ?a30 ?l30 ?c30 ?k30 ?a31 ?l31 ?c31 ?k31 ?a32 ?l32 ?c32 ?k32 ?a33 ?l33 ?c33 ?k33 ?a34 ?l34 ?c34 ?k34 ?a35 ?l35 ?c35 ?k35 ?a36 ?l36 ?c36 ?k36 ?a37 ?l37 ?c37 ?k37 ?a38 ?l38 ?c38 ?k38 ?a39 ?l39 ?c39 ?k39 ?a40 ?l40 ?c40 ?k40 ?a41 ?l41 ?c41 ?k41 ?a42 ?l42 ?c42 ?k42 ?a43 ?l43 ?c43 ?k43 ?a44 ?l44 ?c44 ?k44 ?a45 ?l45 ?c45 ?k45 ?a46 ?l46 ?c46 ?k46 ?a47 ?i47 ?l47 ?c47 ?k47 ?aCC ?pgCC ?hdCC ?poCC ?saCC ?mkCC ?kcCC ?nC_family ?nC_forms ?a48 ?i48 ?l48 ?c48 ?k48 ?aCCF ?pgCCF ?hdCCF ?poCCF ?saCCF ?mkCCF ?kcCCF ?nCF_many ?nCF_cells ?a49 ?i49 ?l49 ?c49 ?k49 ?aCCB ?pgCCB ?hdCCB ?poCCB ?saCCB ?mkCCB ?kcCCB ?nCB_manner ?nCB_entries ?nCB_weights ?aCFormError ?aCNoCell ?xlNoCell ?saNoCell ?exNoCell ?tyNoCell ?kpNoCell ?fiNoCell ?ftNoCell ?flNoCell ?cdNoCell ?coNoCell ?cvNoCell ?cfNoCell ?ceNoCell ?mrNoCell ?suNoCell ?veNoCell ?isNoCell ?gaNoCell ?ggNoCell ?hdNoCell ?aCTooMany ?xlTooMany ?saTooMany ?exTooMany ?tyTooMany ?kpTooMany ?fiTooMany ?ftTooMany ?flTooMany ?cdTooMany ?coTooMany ?cvTooMany ?cfTooMany ?ceTooMany ?mrTooMany ?suTooMany ?veTooMany ?isTooMany ?gaTooMany ?ggTooMany ?hdTooMany ?noTooMany_most ?opE ?z_super ?toE ?sbNoCell_NoCell ?sbNoCell_TooMany ?sbTooMany_NoCell ?sbTooMany_TooMany ?hN ?hT ?hACNoCell ?hMCNoCell ?hACTooMany ?hMCTooMany ?exF ?isF ?tyF ?sfNoCell ?sfTooMany ?neNoCell_TooMany ?neTooMany_NoCell ?z_repr ?z_len ?z_int ?z_abs ?z_list ?z_tuple ?z_range ?z_min ?z_isinstance ?z_enumerate ?z_bool ?z_str ?z_all ?z_any ?z_sum ?z_max ?z_sorted ?z_zip ?z_set ?g_LONGEST_FORM ?g_MOST_FORMS ?g_MOST_MARKS ?g_MOST_CELLS ?g_MARKS ?g_MOST_ENTRIES ?g_MOST_WEIGHT ?aM0 ?lM
    (case aCC => k_is)
    (case aCCF => k_is)
    (case aCCB => k_is)
    (case aCFormError => k_is)
    (case aCNoCell => k_is)
    (case aCTooMany => k_is)
    (case aM0 => k_is)
    (case a0 => k_is)
    (case l0 => k_is)
    (case c0 => k_is)
    (case k0 => k_is)
    (case a1 => k_is)
    (case l1 => k_is)
    (case c1 => k_is)
    (case k1 => k_is)
    (case a2 => k_is)
    (case l2 => k_is)
    (case c2 => k_is)
    (case k2 => k_is)
    (case a3 => k_is)
    (case l3 => k_is)
    (case c3 => k_is)
    (case k3 => k_is)
    (case a4 => k_is)
    (case l4 => k_is)
    (case c4 => k_is)
    (case k4 => k_is)
    (case a5 => k_is)
    (case l5 => k_is)
    (case c5 => k_is)
    (case k5 => k_is)
    (case a6 => k_is)
    (case l6 => k_is)
    (case c6 => k_is)
    (case k6 => k_is)
    (case a7 => k_is)
    (case l7 => k_is)
    (case c7 => k_is)
    (case k7 => k_is)
    (case a8 => k_is)
    (case l8 => k_is)
    (case c8 => k_is)
    (case k8 => k_is)
    (case a9 => k_is)
    (case l9 => k_is)
    (case c9 => k_is)
    (case k9 => k_is)
    (case a10 => k_is)
    (case l10 => k_is)
    (case c10 => k_is)
    (case k10 => k_is)
    (case a11 => k_is)
    (case l11 => k_is)
    (case c11 => k_is)
    (case k11 => k_is)
    (case a12 => k_is)
    (case l12 => k_is)
    (case c12 => k_is)
    (case k12 => k_is)
    (case a13 => k_is)
    (case l13 => k_is)
    (case c13 => k_is)
    (case k13 => k_is)
    (case a14 => k_is)
    (case l14 => k_is)
    (case c14 => k_is)
    (case k14 => k_is)
    (case a15 => k_is)
    (case l15 => k_is)
    (case c15 => k_is)
    (case k15 => k_is)
    (case a16 => k_is)
    (case l16 => k_is)
    (case c16 => k_is)
    (case k16 => k_is)
    (case a17 => k_is)
    (case l17 => k_is)
    (case c17 => k_is)
    (case k17 => k_is)
    (case a18 => k_is)
    (case l18 => k_is)
    (case c18 => k_is)
    (case k18 => k_is)
    (case a19 => k_is)
    (case l19 => k_is)
    (case c19 => k_is)
    (case k19 => k_is)
    (case a20 => k_is)
    (case l20 => k_is)
    (case c20 => k_is)
    (case k20 => k_is)
    (case a21 => k_is)
    (case l21 => k_is)
    (case c21 => k_is)
    (case k21 => k_is)
    (case a22 => k_is)
    (case l22 => k_is)
    (case c22 => k_is)
    (case k22 => k_is)
    (case a23 => k_is)
    (case l23 => k_is)
    (case c23 => k_is)
    (case k23 => k_is)
    (case a24 => k_is)
    (case l24 => k_is)
    (case c24 => k_is)
    (case k24 => k_is)
    (case a25 => k_is)
    (case l25 => k_is)
    (case c25 => k_is)
    (case k25 => k_is)
    (case a26 => k_is)
    (case l26 => k_is)
    (case c26 => k_is)
    (case k26 => k_is)
    (case a27 => k_is)
    (case l27 => k_is)
    (case c27 => k_is)
    (case k27 => k_is)
    (case a28 => k_is)
    (case l28 => k_is)
    (case c28 => k_is)
    (case k28 => k_is)
    (case a29 => k_is)
    (case l29 => k_is)
    (case c29 => k_is)
    (case k29 => k_is)
    (case a30 => k_is)
    (case l30 => k_is)
    (case c30 => k_is)
    (case k30 => k_is)
    (case a31 => k_is)
    (case l31 => k_is)
    (case c31 => k_is)
    (case k31 => k_is)
    (case a32 => k_is)
    (case l32 => k_is)
    (case c32 => k_is)
    (case k32 => k_is)
    (case a33 => k_is)
    (case l33 => k_is)
    (case c33 => k_is)
    (case k33 => k_is)
    (case a34 => k_is)
    (case l34 => k_is)
    (case c34 => k_is)
    (case k34 => k_is)
    (case a35 => k_is)
    (case l35 => k_is)
    (case c35 => k_is)
    (case k35 => k_is)
    (case a36 => k_is)
    (case l36 => k_is)
    (case c36 => k_is)
    (case k36 => k_is)
    (case a37 => k_is)
    (case l37 => k_is)
    (case c37 => k_is)
    (case k37 => k_is)
    (case a38 => k_is)
    (case l38 => k_is)
    (case c38 => k_is)
    (case k38 => k_is)
    (case a39 => k_is)
    (case l39 => k_is)
    (case c39 => k_is)
    (case k39 => k_is)
    (case a40 => k_is)
    (case l40 => k_is)
    (case c40 => k_is)
    (case k40 => k_is)
    (case a41 => k_is)
    (case l41 => k_is)
    (case c41 => k_is)
    (case k41 => k_is)
    (case a42 => k_is)
    (case l42 => k_is)
    (case c42 => k_is)
    (case k42 => k_is)
    (case a43 => k_is)
    (case l43 => k_is)
    (case c43 => k_is)
    (case k43 => k_is)
    (case a44 => k_is)
    (case l44 => k_is)
    (case c44 => k_is)
    (case k44 => k_is)
    (case a45 => k_is)
    (case l45 => k_is)
    (case c45 => k_is)
    (case k45 => k_is)
    (case a46 => k_is)
    (case l46 => k_is)
    (case c46 => k_is)
    (case k46 => k_is)
    (case a47 => k_is)
    (case i47 => k_is)
    (case l47 => k_is)
    (case c47 => k_is)
    (case k47 => k_is)
    (case pgCC => k_is)
    (case hdCC => k_is)
    (case poCC => k_is)
    (case saCC => k_is)
    (case mkCC => k_is)
    (case kcCC => k_is)
    (case nC_family => k_is)
    (case nC_forms => k_is)
    (case a48 => k_is)
    (case i48 => k_is)
    (case l48 => k_is)
    (case c48 => k_is)
    (case k48 => k_is)
    (case pgCCF => k_is)
    (case hdCCF => k_is)
    (case poCCF => k_is)
    (case saCCF => k_is)
    (case mkCCF => k_is)
    (case kcCCF => k_is)
    (case nCF_many => k_is)
    (case nCF_cells => k_is)
    (case a49 => k_is)
    (case i49 => k_is)
    (case l49 => k_is)
    (case c49 => k_is)
    (case k49 => k_is)
    (case pgCCB => k_is)
    (case hdCCB => k_is)
    (case poCCB => k_is)
    (case saCCB => k_is)
    (case mkCCB => k_is)
    (case kcCCB => k_is)
    (case nCB_manner => k_is)
    (case nCB_entries => k_is)
    (case nCB_weights => k_is)
    (case xlNoCell => k_is)
    (case saNoCell => k_is)
    (case exNoCell => k_is)
    (case tyNoCell => k_is)
    (case kpNoCell => k_is)
    (case fiNoCell => k_is)
    (case ftNoCell => k_is)
    (case flNoCell => k_is)
    (case cdNoCell => k_is)
    (case coNoCell => k_is)
    (case cvNoCell => first | rfl | k_is | decide +kernel)
    (case cfNoCell => first | rfl | decide +kernel)
    (case ceNoCell => k_is)
    (case mrNoCell => k_is)
    (case suNoCell => first | ks_is | k_is)
    (case veNoCell => k_is)
    (case isNoCell => k_is)
    (case gaNoCell => k_is)
    (case ggNoCell => k_is)
    (case hdNoCell => k_is)
    (case xlTooMany => k_is)
    (case saTooMany => k_is)
    (case exTooMany => k_is)
    (case tyTooMany => k_is)
    (case kpTooMany => k_is)
    (case fiTooMany => k_is)
    (case ftTooMany => k_is)
    (case flTooMany => k_is)
    (case cdTooMany => k_is)
    (case coTooMany => k_is)
    (case cvTooMany => first | rfl | k_is | decide +kernel)
    (case cfTooMany => first | rfl | decide +kernel)
    (case ceTooMany => k_is)
    (case mrTooMany => k_is)
    (case suTooMany => first | ks_is | k_is)
    (case veTooMany => k_is)
    (case isTooMany => k_is)
    (case gaTooMany => k_is)
    (case ggTooMany => k_is)
    (case hdTooMany => k_is)
    (case noTooMany_most => k_is)
    (case opE => k_is)
    (case z_super => k_is)
    (case toE => first | rfl | decide +kernel)
    (case sbNoCell_NoCell => first | rfl | k_is)
    (case sbNoCell_TooMany => first | rfl | k_is)
    (case sbTooMany_NoCell => first | rfl | k_is)
    (case sbTooMany_TooMany => first | rfl | k_is)
    (case hN => k_is)
    (case hT => k_is)
    (case hACNoCell => k_is)
    (case hMCNoCell => k_is)
    (case hACTooMany => k_is)
    (case hMCTooMany => k_is)
    (case exF => k_is)
    (case isF => k_is)
    (case tyF => k_is)
    (case sfNoCell => first | rfl | k_is)
    (case sfTooMany => first | rfl | k_is)
    (case neNoCell_TooMany => first | rfl | decide +kernel)
    (case neTooMany_NoCell => first | rfl | decide +kernel)
    (case z_repr => k_is)
    (case z_len => k_is)
    (case z_int => k_is)
    (case z_abs => k_is)
    (case z_list => k_is)
    (case z_tuple => k_is)
    (case z_range => k_is)
    (case z_min => k_is)
    (case z_isinstance => k_is)
    (case z_enumerate => k_is)
    (case z_bool => k_is)
    (case z_str => k_is)
    (case z_all => k_is)
    (case z_any => k_is)
    (case z_sum => k_is)
    (case z_max => k_is)
    (case z_sorted => k_is)
    (case z_zip => k_is)
    (case z_set => k_is)
    (case g_LONGEST_FORM => k_is)
    (case g_MOST_FORMS => k_is)
    (case g_MOST_MARKS => k_is)
    (case g_MOST_CELLS => k_is)
    (case g_MARKS => k_is)
    (case g_MOST_ENTRIES => k_is)
    (case g_MOST_WEIGHT => k_is)
    (case lM => k_is)
