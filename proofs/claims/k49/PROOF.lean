import PyProof.Rows.All
import Wide.All
import OpenK.AllK
import Wide.FinOn
import HandS.ForMost
import KE.GoesEnum
import HandS.Codes
import HandS.IsInst
import HandS.Zip
import HandS.TupAny
import HandS.Deep
import HandS.TupSets
import HandS.Conv
import HandS.Walk
import HandS.SortInts
import HandS.TupMul
import KE.GoesZip
import HandS.SetFor
import HandS.Comp
import HandS.Set
import HandS.SetKeys
import HandS.SetBool
import PyProof.Rows.SortShellAny
import PyProof.Rows.SortStr
import HandS.NamedTupSort
import HandS.TryOnly
import HandS.OwnEq
import HandS.TupLe
import HandS.ExcInit
import HandS.Nested
import HandS.ExcOwn
import HandS.WordsExc
import HandS.ExcField
import HandS.ExcIs
import KE.KExcSuper
import KE.KSuper
import KE.RegKSuper
import PyProof.ReprBulk
import HandS.Style
import HandS.More
import KE.OsArith
import PyProof.Rows.BitMore
import KE.KDictList
import HandS.Dict
import HandS.Iter
import HandS.DictSubView
import PyProof.DictMoreH
import HandS.Flow
import PySem.Challenge.RW_sameforms_k49_whole_tables_that_are_made
set_option Elab.async false
set_option linter.all false
set_option maxRecDepth 100000
namespace Xci
open PySem PySem.Spec PyProof.Rows L2
/-- what a tuple's walk begins with, and what counts it -/
def tupleWalkO (t : Addr) : Obj := { cls := .type "tuple_iterator", data := .fields #[.ref t, .int 0 0] }
def countO (walk : Addr) : Obj := { cls := .type "enumerate", data := .fields #[.none, .bool false, .ref walk, rawInt 0, .none, .none] }
abbrev counted (h : Heap) (t : Addr) : Heap := (h.push (tupleWalkO t)).push (countO h.objs.size)
theorem counted_kept {h : Heap} {t b : Addr} {o : Obj} (q : h.get? b = some o) : (counted h t).get? b = some o :=
  Heap.get?_push_of_some _ (Heap.get?_push_of_some _ q)
theorem counted_walk {h : Heap} {t : Addr} : (counted h t).IsTupleIter h.objs.size t 0 :=
  ⟨tupleWalkO t, Heap.get?_push_of_some _ (Heap.get?_push_size _ rfl), rfl, rfl⟩
theorem counted_at {h : Heap} {t : Addr} : IsEnum (counted h t) (h.objs.size + 1) h.objs.size 0 .none := by
  have q : (counted h t).get? (h.push (tupleWalkO t)).objs.size = some (countO h.objs.size) := Heap.get?_push_size _ rfl
  rw [Heap.size_push] at q
  exact q
set_option maxHeartbeats 1000000 in
theorem count_new (t : Addr) (items : Array Value) : Meets (Builtin.«enumerate.__new__» ⟨[.type "enumerate", .ref t], []⟩)
    (fun _ R s => s.heap.IsTuple t items ∧ R (.ok (.ret (.ref (s.heap.push (tupleWalkO t)).objs.size))) { s with heap := counted s.heap t }) :=
  .of_wp fun prog w A R s hs => by
    cases s
    have known := sub_enumerate
    have walk := fun {A' : Around} {E : Value → Shared → Prop} {Q : Value → Shared → Prop} (q : Q _ _) => (begins_tuple t items).iter prog w A' E _ Q hs.1 q
    wp_walk using walk
    refine wpAny_stack_any fun st => wpAny_pure ?_
    split
    case h_1 c _ _ _ _ _ => cases (c == Value.type "enumerate") <;> (wp_walk using walk; exact ⟨_, rfl, hs.2⟩)
    all_goals (wp_walk using walk; exact ⟨_, rfl, hs.2⟩)
theorem call_count {P : Program} {w : World} {A : Around} {E : Value → Shared → Prop} {s : Shared} {t : Addr} {items : Array Value} {Q : Value → Shared → Prop} (p : s.heap.IsTuple t items)
    (q : Q (.ref (s.heap.objs.size + 1)) { s with heap := counted s.heap t }) : wpAny (model P w) A (call (.type "enumerate") [.ref t]) Q E s := by
  refine callType_new F.called_enumerate (by decide) (F.typeCall_enumerate_1 _) (F.newCall_enumerate_1 _) (F.args_object_init_2 · _) F.entry_enumerate_new (count_new t items) ⟨p, ?_⟩
  rw [Heap.size_push]
  exact ⟨⟨_, counted_at, rfl⟩, q⟩
/-- item by item through the tuple at a, each told with its number in a new pair -/
def IteT (K : PySem.W.Frag) (a : Addr) : It where
  go i H := ∃ (xs : List V) (x : V), SqT K H a xs ∧ xs[i]? = some x
  yld i H v H' := ∃ T x, v = .ref T ∧ H T = none ∧ H' = upd H T (.tup [.int (i : Nat), x]) ∧ ∀ xs, SqT K H a xs → xs[i]? = some x
  stop i H := ∃ xs : List V, SqT K H a xs ∧ xs.length = i
/-- the walk stands ahead of number i -/
def StandsT (a e it : Addr) (i : Nat) (h : Heap) : Prop := (∃ old, IsEnum h e it (i : Int) old) ∧ h.IsTupleIter it a i
theorem turn_enumT {P : Program} {w : World} {K : PySem.W.Frag} {elts : List Expr} {kk : Nat} {tpos : Pos} {a e it : Addr} (h1 : a ≠ it) (h2 : a ≠ e) (h3 : e ≠ it) :
    Turn P w K (.Tuple elts kk tpos) (IteT K a) [e, it] e (StandsT a e it) where
  mem := List.mem_cons_self
  self A i s Q E st q := by
    obtain ⟨⟨_, at0⟩, _⟩ := st
    exact wpAny_pyIter_enum at0 q
  keep i h h' st k := by
    obtain ⟨⟨v, at0⟩, at1⟩ := st
    exact ⟨⟨v, k e List.mem_cons_self _ at0⟩, at1.at fun o => k it (List.mem_cons_of_mem _ List.mem_cons_self) o⟩
  obj i h st b hb := by
    obtain ⟨⟨_, at0⟩, o, at1, _, dat⟩ := st
    rcases List.mem_cons.mp hb with rfl | hb
    · exact ⟨_, at0, nofun⟩
    · cases List.mem_singleton.mp hb
      exact ⟨o, at1, fun v z => nomatch dat.symm.trans z⟩
  item X eP eW eK calm i pins s σ H E I free st now := by
    subst eP; subst eW; subst eK
    obtain ⟨xs, x, sq, hx⟩ := now
    obtain ⟨its, vals, tup, _⟩ := I.tuple sq
    obtain ⟨u, hu, ru⟩ := vals.get hx
    have W := WalksT.enumerateD (Draws.tuple (prog := X.prog) (w := X.w) (A := X.A.in1) (show X.A.in1.handled = none from I.ok.hd calm) it a h1 its.toArray) e h3
      (fun z => (List.mem_cons.mp z).elim h3 fun z => h2 (List.mem_singleton.mp z).symm) List.mem_cons_self
    refine W.item i s _ E (by rw [List.size_toArray]; exact (List.getElem?_eq_some_iff.mp hu).1) ⟨st.1, st.2, tup⟩ fun T row h' tk told hT rowT mid kept => ⟨_, rfl, W.go elts kk tpos i T _ _ E mid fun h'' st' kept' => ?_⟩
    obtain ⟨t, y, hy, rfl⟩ := told
    obtain rfl : y = u := Option.some.inj (hy.symm.trans (by rw [List.getElem?_toArray]; exact hu))
    have out := W.apart i T h' mid
    have row'' : h''.IsTuple T #[.int (i : Int) t, y] := rowT.at fun o => kept' T o out
    have J := I.turnedNew (t' := tk) (fun b o nb q => kept' b o nb (kept b o nb q)) free hT (ob := .tup [.int (i : Int), x]) ⟨by show 2 ≤ sizeLine; decide, _, .cons ⟨t, rfl⟩ (.cons ru .nil), row''⟩
    refine ⟨.ref T, _, J, rfl, ⟨T, x, rfl, I.hok.fresh hT, rfl, fun ys sq' => I.tuple_inj sq' sq ▸ hx⟩, ⟨?_, st'.2.1⟩, fun b hb => ?_⟩
    · obtain ⟨⟨v, z⟩, _⟩ := st'
      exact ⟨v, z⟩
    · rw [upd_ne fun z : b = T => out (z ▸ hb)]
      exact (free b hb).1
  done X eP eW eK calm i pins s σ H E I free st now := by
    subst eP; subst eW; subst eK
    obtain ⟨xs, sq, rfl⟩ := now
    obtain ⟨its, vals, tup, _⟩ := I.tuple sq
    obtain ⟨⟨v, at0⟩, at1⟩ := st
    rw [vals.length, ← List.size_toArray] at at0 at1
    obtain ⟨n, l, c1, c2, c3, c4⟩ := free it (List.mem_cons_of_mem _ List.mem_cons_self)
    exact wpAny_pyNext_enum_endD (Draws.tuple (prog := X.prog) (w := X.w) (A := X.A.in1) (show X.A.in1.handled = none from I.ok.hd calm) it a h1 its.toArray) at0 ⟨at1, tup⟩ fun h' k => ⟨rfl, I.turned (t' := s.toks) k n l c2 c3 c4⟩
/-- enumerate(a tuple) -/
def iEnumT (K : PySem.W.Frag) (ta : TA) : TI := fun σ H R => ta σ H fun vs H1 => ∃ a xs, vs = [.ref a] ∧ SqT K H1 a xs ∧ R (IteT K a) H1
theorem pi_enumT {X : Cx} {e : Expr} {ta : TA} {p pos tpos : Pos} {elts : List Expr} {kk : Nat} (hg : Gl X "enumerate") (hm : X.mg "enumerate" = none) (ha : PA X [e] ta) (hs : starEach [e] X.env = [(false, eval e X.env)] := by rfl) :
    PI X (.Tuple elts kk tpos) (.Call (.Name "enumerate" p) [e] [] pos) (iEnumT X.K ta) where
  run pins s σ H R I h := Call_ (ld_blt I hg hm boot_enumerate (PyProof.Rows.callWith_type1 (thn (ha.run pos pins s σ H _ I h) fun us s1 ⟨vs, H1, I1, rs, a, xs, one, sq, q⟩ => by
    subst one
    rw [Vals.ref1 rs]
    obtain ⟨its, _, tup, _⟩ := I1.tuple sq
    obtain ⟨o, lo, _⟩ := id tup
    have la := Heap.lt_size lo
    refine call_count tup (wpAny_pyIter_enum counted_at ⟨s1.heap.objs.size + 1, [s1.heap.objs.size + 1, s1.heap.objs.size], StandsT a _ _, _, H1, rfl, I1.kept (t' := s1.toks) fun _ _ => counted_kept,
      turn_enumT (Nat.ne_of_lt la) (Nat.ne_of_lt (Nat.lt_succ_of_lt la)) (Nat.succ_ne_self _), ⟨⟨_, counted_at⟩, counted_walk⟩, fun b hb => ?_, q⟩)
    have lb : s1.heap.objs.size ≤ b := (List.mem_cons.mp hb).elim (fun z => z ▸ Nat.le_succ _) fun z => (List.mem_singleton.mp z) ▸ Nat.le_refl _
    exact I1.fpOk lb (I1.hok.fresh lb)) hs rfl))
end Xci

namespace Xci
open PySem PySem.Spec PyProof.Rows L2
section
variable {P : Program} {w : World} {K : PySem.W.Frag} {mg : Str → Option Value} {base : Heap}
/-- what stands under the name x keeps the promise sp -/
structure Has (P : Program) (w : World) (K : PySem.W.Frag) (mg : Str → Option Value) (base : Heap) (x : Str) (ps : List Str) (k : Nat) (sp : Sp) : Prop where
  ex : ∃ (f : Addr) (fd : FuncData), FnOk P w K mg base CX0 k f fd ps sp ∧ mg x = some (.ref f) ∧ PySem.W.keepIn K (.ref f) = true ∧ Binds K fd ps []
end
theorem pe_callH {X : Cx} {x : Str} {ps : List Str} {k : Nat} {sp : Sp} {e : Expr} {es : List Expr} {t : TA} {p pos : Pos} (h : Has X.prog X.w X.K X.mg X.base x ps k sp) (hr : Room k X.A) (hg : Gl X x)
    (ha : PA X (e :: es) t) (hdb : (x == ("__debug__" : Str)) = false := by decide) (he : starEach (e :: es) X.env = (false, eval e X.env) :: starEach es X.env := by rfl) (hpl : (backTo pos (starEach es X.env)).any (·.1) = false := by rfl) :
    PE X (.Call (.Name x p) (e :: es) [] pos) (tCall sp [] E0 t) := by
  obtain ⟨f, fd, F, m, kp, b⟩ := h.ex
  exact pe_call F hr hg m kp b .nil pass0 ha hdb he hpl
/-- the class that stands under the name x, its __init__ keeping the promise sp -/
structure HasC (P : Program) (w : World) (K : PySem.W.Frag) (mg : Str → Option Value) (base : Heap) (x : Str) (C : Addr) (ps : List Str) (k : Nat) (sp : Sp) : Prop where
  ex : ∃ (f : Addr) (fd : FuncData), FnOk P w K mg base CX0 k f fd ps sp ∧ L2.Mk K C f ∧ mg x = some (.ref C) ∧ Binds K fd ps []
theorem pe_makeH {X : Cx} {x : Str} {C : Addr} {ps : List Str} {k : Nat} {sp : Sp} {e : Expr} {es : List Expr} {t : TA} {p pos : Pos} (h : HasC X.prog X.w X.K X.mg X.base x C ps k sp) (hr : Room (k + 1) X.A) (hg : Gl X x)
    (ha : PA X (e :: es) t) (hdb : (x == ("__debug__" : Str)) = false := by decide) (he : starEach (e :: es) X.env = (false, eval e X.env) :: starEach es X.env := by rfl) (hpl : (backTo pos (starEach es X.env)).any (·.1) = false := by rfl) :
    PE X (.Call (.Name x p) (e :: es) [] pos) (tMake C sp [] E0 t) := by
  obtain ⟨f, fd, F, M, m, b⟩ := h.ex
  exact pe_make M F hr hg m b .nil pass0 ha hdb he hpl
/-- all but what stands at a is kept -/
def Fr (a : Addr) (H H' : Hp) : Prop := ∀ b o, H b = some o → b ≠ a → H' b = some o
theorem Fr.refl (a : Addr) (H : Hp) : Fr a H H := fun _ _ h _ => h
theorem Fr.trans {a : Addr} {H H1 H2 : Hp} (f : Fr a H H1) (g : Fr a H1 H2) : Fr a H H2 := fun b o h n => g b o (f b o h n) n
theorem Fr.same {a : Addr} {H H' : Hp} (f : Same H H') : Fr a H H' := fun b o h _ => f b o h
theorem Fr.at {a : Addr} {H : Hp} {o : HO} : Fr a H (upd H a o) := fun b u h n => by rw [upd_ne n]; exact h
theorem Fr.new {a p : Addr} {H : Hp} {o : HO} (h : H p = Option.none) : Fr a H (upd H p o) := fun b u e _ => by rw [upd_ne (ne_of_none e h)]; exact e
theorem Same.new {p : Addr} {H : Hp} {o : HO} (h : H p = Option.none) : Same H (upd H p o) := fun b u e => by rw [upd_ne (ne_of_none e h)]; exact e
/-- an address that stood nowhere before, behind a frame that keeps all but a -/
theorem Fr.free {a : Addr} {H H' : Hp} (f : Fr a H H') {o : HO} (ha : H a = some o) {p : Addr} (h : H' p = Option.none) (ha' : ∃ o', H' a = some o') : H p = Option.none := by
  cases q : H p with
  | none => rfl
  | some u =>
    by_cases e : p = a
    · subst e
      obtain ⟨o', z⟩ := ha'
      rw [z] at h; cases h
    · rw [f p u q e] at h; cases h
/-- the tuples are kept -/
def TFr (H H' : Hp) : Prop := ∀ p xs, H p = some (.tup xs) → H' p = some (.tup xs)
theorem TFr.refl (H : Hp) : TFr H H := fun _ _ h => h
theorem TFr.trans {H H1 H2 : Hp} (f : TFr H H1) (g : TFr H1 H2) : TFr H H2 := fun p xs h => g p xs (f p xs h)
theorem TFr.same {H H' : Hp} (f : Same H H') : TFr H H' := fun p xs h => f p _ h
theorem TFr.new {p : Addr} {H : Hp} {o : HO} (h : H p = Option.none) : TFr H (upd H p o) := TFr.same (Same.new h)
theorem TFr.lst {p : Addr} {H : Hp} {o : HO} {ys : List V} (h : H p = some (.lst ys)) : TFr H (upd H p o) := fun q xs e => by
  rw [upd_ne (ne_of e h (by intro z; cases z))]; exact e
theorem TFr.fr {a : Addr} {H H' : Hp} {ys : List V} (h : H a = some (.lst ys)) (f : Fr a H H') : TFr H H' := fun q xs e => f q _ e (ne_of e h (by intro z; cases z))
/-- v is a tuple of xs -/
def Tup (H : Hp) (v : V) (xs : List V) : Prop := ∃ p, v = .ref p ∧ H p = some (.tup xs)
theorem Tup.keep {H H' : Hp} {v : V} {xs : List V} (f : TFr H H') (t : Tup H v xs) : Tup H' v xs := by
  obtain ⟨p, e, h⟩ := t
  exact ⟨p, e, f p xs h⟩
/-- the deck that the law draws from, and its own list at l: nothing is known of its five items but that the numbers are in bounds -/
def Deck (H : Hp) (a l : Addr) : Prop := ∃ (ns : List Int) (i c n s : Int), H a = some (.lst [.ref l, .int i, .int c, .int n, .int s]) ∧ H l = some (.lst (ns.map V.int)) ∧ a ≠ l ∧ (∀ z ∈ ns, 0 ≤ z) ∧ 0 ≤ i ∧ i ≤ (ns.length : Int) ∧ 0 ≤ c ∧ 0 ≤ s ∧ s < 2147483647
theorem Deck.is {H : Hp} {a l : Addr} (d : Deck H a l) : ∃ ys, H a = some (.lst ys) := by
  obtain ⟨ns, i, c, n, s, h, _⟩ := d
  exact ⟨_, h⟩
theorem Deck.is' {H : Hp} {a l : Addr} (d : Deck H a l) : ∃ ys, H l = some (.lst ys) := by
  obtain ⟨ns, i, c, n, s, _, h, _⟩ := d
  exact ⟨_, h⟩
theorem Deck.tfr {H H' : Hp} {a l : Addr} (d : Deck H a l) (f : Fr a H H') : TFr H H' := by
  obtain ⟨ys, h⟩ := d.is
  exact TFr.fr h f
theorem Deck.keep {H H' : Hp} {a l : Addr} (d : Deck H a l) (f : Same H H') : Deck H' a l := by
  obtain ⟨ns, i, c, n, s, h, hl, r⟩ := d
  exact ⟨ns, i, c, n, s, f _ _ h, f _ _ hl, r⟩
/-- a store at q, which is neither the deck nor its list -/
theorem Deck.put {H : Hp} {a l q : Addr} {o : HO} (d : Deck H a l) (n1 : q ≠ a) (n2 : q ≠ l) : Deck (upd H q o) a l := by
  obtain ⟨ns, i, c, n, s, h, hl, r⟩ := d
  exact ⟨ns, i, c, n, s, by rw [upd_ne n1.symm]; exact h, by rw [upd_ne n2.symm]; exact hl, r⟩
/-- q was free when the deck stood -/
theorem Deck.ne {H : Hp} {a l q : Addr} (d : Deck H a l) (h : H q = Option.none) : q ≠ a := by
  obtain ⟨ys, z⟩ := d.is
  exact (ne_of_none z h).symm
theorem Deck.ne' {H : Hp} {a l q : Addr} (d : Deck H a l) (h : H q = Option.none) : q ≠ l := by
  obtain ⟨ys, z⟩ := d.is'
  exact (ne_of_none z h).symm
/-- what is free behind a draw was free ahead of it -/
theorem Deck.free {H H' : Hp} {a l q : Addr} (d : Deck H' a l) (f : Fr a H H') (h : H' q = Option.none) : H q = Option.none := by
  have n := d.ne h
  cases e : H q with
  | none => rfl
  | some u => rw [f q u e n] at h; cases h
def spTake : Sp := fun vs H Q _ => ∃ (a l : Addr) (m : Int), vs = [.ref a, .int m] ∧ Deck H a l ∧ 0 < m ∧ m < 1073741824 ∧ ∀ (d : Int) (H' : Hp), 0 ≤ d → d < m → Deck H' a l → Fr a H H' → (∀ b, b ≠ a → H' b = H b) → Q (.int d) H'
theorem pe_gint {X : Cx} {x : Str} {i : Int} {t : Tok} {pos : Pos} (hg : Gl X x) (hm : X.mg x = some (.int i t)) (hd : (x == ("__debug__" : Str)) = false := by decide) : PE X (.Name x pos) (tC (.int i)) := pe_glob (v := .int i) hg hm ⟨t, rfl⟩ hd
theorem walk_enumT {K : PySem.W.Frag} {a : Addr} {xs : List V} : Walk (IteT K a) xs.length (fun H => SqT K H a xs) (fun i H v H' => ∃ T x, v = .ref T ∧ H T = none ∧ H' = upd H T (.tup [.int (i : Nat), x]) ∧ xs[i]? = some x) :=
  ⟨fun i H hi q => ⟨xs, xs[i], q, List.getElem?_eq_getElem hi⟩, fun H q => ⟨xs, q, rfl⟩, fun i H v H' hi q ⟨T, x, e1, e2, e3, f⟩ => ⟨T, x, e1, e2, e3, f xs q⟩⟩
theorem call_lenK {X : Cx} : CallR X (.builtin "len") (rLen X.K) := call_len
def rTupOf (K : PySem.W.Frag) : List V → Hp → VK → Prop := fun xs H Q => ∃ p ys, xs = [.ref p] ∧ ((SqL K H p ys ∧ ∀ l, H l = none → Q (.ref l) (upd H l (.tup ys))) ∨ (SqT K H p ys ∧ Q (.ref p) H))
theorem call_tupleK {X : Cx} : CallR X (.type "tuple") (rTupOf X.K) := call_tuple_of
def rListOf (K : PySem.W.Frag) : List V → Hp → VK → Prop := fun xs H Q => ∃ p ys, xs = [.ref p] ∧ (SqL K H p ys ∨ SqT K H p ys) ∧ ∀ l, H l = none → Q (.ref l) (upd H l (.lst ys))
theorem call_listK {X : Cx} : CallR X (.type "list") (rListOf X.K) := call_list_of
theorem hu64 {A : Around} {k : Nat} (hr : Room k A) : A.units + 64 < cLine := by have := hr.un; omega
/-- the names that the top leaves to the built-ins -/
structure Txt (mg : Str → Option Value) : Prop where
  len : mg "len" = none
  int : mg "int" = none
  abs : mg "abs" = none
  list : mg "list" = none
  tuple : mg "tuple" = none
  range : mg "range" = none
  min : mg "min" = none
  isinstance : mg "isinstance" = none
  enumerate : mg "enumerate" = none
  bool : mg "bool" = none
  str : mg "str" = none
  all : mg "all" = none
  any : mg "any" = none
  sum : mg "sum" = none
  max : mg "max" = none
  sorted : mg "sorted" = none
  zip : mg "zip" = none
  set : mg "set" = none
end Xci

namespace Xci
open PySem L2
def top (i : Nat) : Stmt := PySem.Challenge.pw_sameforms_k49_whole_tables_that_are_made.main.body.getD i (.Pass ⟨0, 0, 0, 0⟩)
end Xci

namespace Xci
open PySem L2
/-! ### data and promises of the law's draws -/
def Sq (K : PySem.W.Frag) (H : Hp) (p : Addr) (xs : List V) : Prop := SqL K H p xs ∨ SqT K H p xs
theorem Sq.fr {K : PySem.W.Frag} {a p : Addr} {H H' : Hp} {xs : List V} (s : Sq K H p xs) (f : Fr a H H') (n : p ≠ a) : Sq K H' p xs := by
  rcases s with ((h | ⟨o, h⟩) | h) | ((h | ⟨o, h⟩) | h)
  · exact .inl (.inl (.inl (f _ _ h n)))
  · exact .inl (.inl (.inr ⟨o, f _ _ h n⟩))
  · exact .inl (.inr h)
  · exact .inr (.inl (.inl (f _ _ h n)))
  · exact .inr (.inl (.inr ⟨o, f _ _ h n⟩))
  · exact .inr (.inr h)
theorem Sq.tup {K : PySem.W.Frag} {H : Hp} {p : Addr} {xs : List V} (h : H p = some (.tup xs)) : Sq K H p xs := .inr (.inl (.inl h))
theorem Sq.lst {K : PySem.W.Frag} {H : Hp} {p : Addr} {xs : List V} (h : H p = some (.lst xs)) : Sq K H p xs := .inl (.inl (.inl h))
theorem sqT {K : PySem.W.Frag} {H : Hp} {p : Addr} {xs : List V} (h : H p = some (.tup xs)) : SqT K H p xs := .inl (.inl h)
theorem sqT_same {K : PySem.W.Frag} {H H' : Hp} {p : Addr} {xs : List V} (s : SqT K H p xs) (f : Same H H') : SqT K H' p xs := by
  rcases s with (h | ⟨o, h⟩) | h
  · exact .inl (.inl (f _ _ h))
  · exact .inl (.inr ⟨o, f _ _ h⟩)
  · exact .inr h
/-- tracked: a list or a tuple of xs at p -/
def Sq0 (H : Hp) (p : Addr) (xs : List V) : Prop := H p = some (.lst xs) ∨ H p = some (.tup xs)
theorem Sq0.fr {a p : Addr} {H H' : Hp} {xs : List V} (s : Sq0 H p xs) (f : Fr a H H') (n : p ≠ a) : Sq0 H' p xs := s.imp (fun h => f _ _ h n) (fun h => f _ _ h n)
theorem Sq0.same {p : Addr} {H H' : Hp} {xs : List V} (s : Sq0 H p xs) (f : Same H H') : Sq0 H' p xs := s.imp (fun h => f _ _ h) (fun h => f _ _ h)
theorem Sq0.put {p q : Addr} {H : Hp} {o : HO} {xs : List V} (s : Sq0 H p xs) (n : p ≠ q) : Sq0 (upd H q o) p xs := s.imp (fun h => by rw [upd_ne n]; exact h) (fun h => by rw [upd_ne n]; exact h)
theorem Sq0.sq {K : PySem.W.Frag} {p : Addr} {H : Hp} {xs : List V} (s : Sq0 H p xs) : Sq K H p xs := s.elim Sq.lst Sq.tup
theorem Sq0.ne {p q : Addr} {H : Hp} {xs : List V} (s : Sq0 H p xs) (h : H q = Option.none) : p ≠ q := s.elim (fun e => ne_of_none e h) (fun e => ne_of_none e h)
structure WordOk (z : Str) : Prop where
  lo : 1 ≤ z.length
  hi : z.length ≤ 8
  az : ∀ c ∈ z.cps.toList, 97 ≤ c ∧ c ≤ 122
structure MarksOk (n : Int) (ms : List Int) : Prop where
  up : ms.Pairwise (· < ·)
  lo : ∀ m ∈ ms, 0 ≤ m
  hi : ∀ m ∈ ms, m < n
theorem MarksOk.sub {n : Int} {ms ks : List Int} (h : MarksOk n ms) (s : ks.Sublist ms) : MarksOk n ks := ⟨h.up.sublist s, fun m q => h.lo m (s.subset q), fun m q => h.hi m (s.subset q)⟩
theorem MarksOk.le {n n' : Int} {ms : List Int} (h : MarksOk n ms) (l : n ≤ n') : MarksOk n' ms := ⟨h.up, h.lo, fun m q => by have := h.hi m q; omega⟩
/-- v is a tuple of the ints ms -/
abbrev Mk (H : Hp) (v : V) (ms : List Int) : Prop := Tup H v (ms.map V.int)
theorem Mk.keep {H H' : Hp} {v : V} {ms : List Int} (f : TFr H H') (t : Xci.Mk H v ms) : Xci.Mk H' v ms := Tup.keep f t
/-- the tuples of ints vs -/
abbrev Mks (H : Hp) (vs : List V) (cs : List (List Int)) : Prop := Paired (fun v ms => Xci.Mk H v ms) vs cs
theorem Mks.keep {H H' : Hp} {vs : List V} {cs : List (List Int)} (f : TFr H H') (t : Mks H vs cs) : Mks H' vs cs := Paired.mapP t fun _ _ h => Tup.keep f h
theorem Paired.get {α β : Type} {F : α → β → Prop} : ∀ {xs : List α} {ys : List β} {i : Nat} {x : α}, Paired F xs ys → xs[i]? = some x → ∃ y, ys[i]? = some y ∧ F x y
  | _, _, _, _, .nil, e => by simp at e
  | _, _, 0, _, .cons r _, e => by simp at e; subst e; exact ⟨_, rfl, r⟩
  | _, _, i + 1, x, .cons _ t, e => by
    obtain ⟨u, h1, h2⟩ := Paired.get (i := i) (x := x) t (by simpa using e)
    exact ⟨u, by simpa using h1, h2⟩
theorem Paired.get' {α β : Type} {F : α → β → Prop} : ∀ {xs : List α} {ys : List β} {i : Nat} {y : β}, Paired F xs ys → ys[i]? = some y → ∃ x, xs[i]? = some x ∧ F x y
  | _, _, _, _, .nil, e => by simp at e
  | _, _, 0, _, .cons r _, e => by simp at e; subst e; exact ⟨_, rfl, r⟩
  | _, _, i + 1, x, .cons _ t, e => by
    obtain ⟨u, h1, h2⟩ := Paired.get' (i := i) (y := x) t (by simpa using e)
    exact ⟨u, by simpa using h1, h2⟩
theorem Paired.app {α β : Type} {F : α → β → Prop} : ∀ {xs xs' : List α} {ys ys' : List β}, Paired F xs ys → Paired F xs' ys' → Paired F (xs ++ xs') (ys ++ ys')
  | _, _, _, _, .nil, s => s
  | _, _, _, _, .cons r t, s => .cons r (Paired.app t s)
theorem Paired.one {α β : Type} {F : α → β → Prop} {x : α} {y : β} (h : F x y) : Paired F [x] [y] := .cons h .nil
theorem Paired.take {α β : Type} {F : α → β → Prop} : ∀ {xs : List α} {ys : List β} (n : Nat), Paired F xs ys → Paired F (xs.take n) (ys.take n)
  | _, _, 0, _ => .nil
  | _, _, _ + 1, .nil => .nil
  | _, _, n + 1, .cons r t => .cons r (Paired.take n t)
theorem Paired.perm {α β : Type} {F : α → β → Prop} {xs xs' : List α} (p : xs'.Perm xs) : ∀ {ys : List β}, Paired F xs ys → ∃ ys', Paired F xs' ys' ∧ ys'.Perm ys := by
  induction p with
  | nil => intro ys h; exact ⟨ys, h, .refl _⟩
  | cons x _ ih =>
    intro ys h
    cases h with
    | cons r t =>
      obtain ⟨ys', h', p'⟩ := ih t
      exact ⟨_, .cons r h', p'.cons _⟩
  | swap x y l =>
    intro ys h
    cases h with
    | cons r t =>
      cases t with
      | cons r' t' => exact ⟨_, .cons r' (.cons r t'), .swap _ _ _⟩
  | trans _ _ ih1 ih2 =>
    intro ys h
    obtain ⟨y1, h1, p1⟩ := ih2 h
    obtain ⟨y2, h2, p2⟩ := ih1 h1
    exact ⟨y2, h2, p2.trans p1⟩
/-- the rest of a list, by the removal of one -/
theorem perm_erase {α : Type} : ∀ {xs : List α} {k : Nat} {y : α}, xs[k]? = some y → (xs.eraseIdx k ++ [y]).Perm xs
  | [], _, _, h => by simp at h
  | a :: r, 0, y, h => by
    have e : a = y := Option.some.inj h
    subst e
    exact List.perm_append_singleton _ _
  | a :: r, k + 1, y, h => by
    have ih := perm_erase (xs := r) (k := k) (y := y) h
    exact ih.cons a
def lots (ns : List Int) : List (List Int) := ns.foldl (fun acc x => acc ++ acc.map (· ++ [x])) [[]]
theorem lots_snoc (ns : List Int) (x : Int) : lots (ns ++ [x]) = lots ns ++ (lots ns).map (· ++ [x]) := by
  unfold lots
  rw [List.foldl_append]
  rfl
theorem snoc_ind {α : Type} {M : List α → Prop} (h0 : M []) (h1 : ∀ l x, M l → M (l ++ [x])) : ∀ l, M l := by
  have : ∀ l : List α, M l.reverse := by
    intro l
    induction l with
    | nil => exact h0
    | cons x l ih => rw [List.reverse_cons]; exact h1 _ _ ih
  intro l
  have q := this l.reverse
  rw [List.reverse_reverse] at q
  exact q
theorem lots_len (ns : List Int) : (lots ns).length = 2 ^ ns.length := by
  refine snoc_ind (M := fun ns => (lots ns).length = 2 ^ ns.length) rfl (fun l x ih => ?_) ns
  rw [lots_snoc, List.length_append, List.length_map, List.length_append, ih, List.length_singleton, Nat.pow_succ]
  omega
theorem lots_sub {ns ms : List Int} : ms ∈ lots ns → ms.Sublist ns := by
  refine snoc_ind (M := fun ns => ∀ ms, ms ∈ lots ns → ms.Sublist ns) (fun ms h => ?_) (fun l x ih ms h => ?_) ns ms
  · have : ms = [] := by simpa [lots] using h
    subst this
    exact .slnil
  · rw [lots_snoc] at h
    rcases List.mem_append.mp h with h | h
    · exact (ih ms h).trans (List.sublist_append_left _ _)
    · obtain ⟨k, hk, rfl⟩ := List.mem_map.mp h
      exact (ih k hk).append_right _
theorem lots_nd {ns : List Int} (h : ns.Nodup) : (lots ns).Nodup := by
  revert h
  refine snoc_ind (M := fun ns => ns.Nodup → (lots ns).Nodup) (fun _ => by decide) (fun l x ih h => ?_) ns
  obtain ⟨h1, _, h3⟩ := List.nodup_append.mp h
  rw [lots_snoc]
  refine List.nodup_append.mpr ⟨ih h1, ?_, fun a ha b hb e => ?_⟩
  · unfold List.Nodup
    rw [List.pairwise_map]
    exact (ih h1).imp fun n e => n (List.append_cancel_right e)
  · obtain ⟨k, hk, rfl⟩ := List.mem_map.mp hb
    subst e
    have : x ∈ l := (lots_sub ha).subset (by simp)
    exact h3 x this x (by simp) rfl
def spDeck (K : PySem.W.Frag) : Sp := fun vs H Q _ => ∃ (a : Addr) (ns : List Int), vs = [.ref a] ∧ SqL K H a (ns.map V.int) ∧ ns.length ≤ 63 ∧ ∀ (d l : Addr) (H' : Hp), Deck H' d l → Same H H' → Q (.ref d) H'
def spMixed (K : PySem.W.Frag) : Sp := fun vs H Q _ => ∃ (a l p : Addr) (xs : List V), vs = [.ref a, .ref p] ∧ Deck H a l ∧ Sq K H p xs ∧ xs.length ≤ 1000 ∧
  ∀ (q : Addr) (ys : List V) (H' : Hp), ys.Perm xs → H' q = some (.lst ys) → H q = Option.none → Deck H' a l → Fr a H H' → Q (.ref q) H'
def spWord : Sp := fun vs H Q _ => ∃ a l : Addr, vs = [.ref a] ∧ Deck H a l ∧ ∀ (z : Str) (H' : Hp), WordOk z → Deck H' a l → Fr a H H' → Q (.str z) H'
def spWords : Sp := fun vs H Q _ => ∃ (a l : Addr) (m : Int), vs = [.ref a, .int m] ∧ Deck H a l ∧ 0 < m ∧ m ≤ 1000 ∧
  ∀ (q : Addr) (zs : List Str) (H' : Hp), zs ≠ [] → (zs.length : Int) ≤ m → zs.Nodup → (∀ z ∈ zs, WordOk z) → H' q = some (.lst (zs.map V.str)) → H q = Option.none → Deck H' a l → Fr a H H' → Q (.ref q) H'
def spLots (K : PySem.W.Frag) : Sp := fun vs H Q _ => ∃ (p : Addr) (ns : List Int), vs = [.ref p] ∧ SqT K H p (ns.map V.int) ∧ ns.length ≤ 6 ∧
  ∀ (q : Addr) (ys : List V) (H' : Hp), H' q = some (.lst ys) → Mks H' ys (lots ns) → Same H H' → H q = Option.none → Q (.ref q) H'
structure FamOk (many : Int) (cells : List (List Int)) : Prop where
  lo : 0 ≤ many
  hi : many ≤ 6
  ne : cells ≠ []
  len : cells.length ≤ 24
  nd : cells.Nodup
  ok : ∀ c ∈ cells, MarksOk many c
def spFamily : Sp := fun vs H Q _ => ∃ a l : Addr, vs = [.ref a] ∧ Deck H a l ∧
  ∀ (v : V) (p : Addr) (many : Int) (ys : List V) (cells : List (List Int)) (H' : Hp), Tup H' v [.int many, .ref p] → H' p = some (.tup ys) → Mks H' ys cells → FamOk many cells → Deck H' a l → Fr a H H' → Q v H'
def spMarks (K : PySem.W.Frag) : Sp := fun vs H Q _ => ∃ (a l p : Addr) (ys : List V) (cells : List (List Int)), vs = [.ref a, .ref p] ∧ Deck H a l ∧ p ≠ a ∧ Sq0 H p ys ∧ Mks H ys cells ∧ cells ≠ [] ∧ cells.length ≤ 1000 ∧ (∀ c ∈ cells, MarksOk 6 c) ∧
  ∀ (v : V) (ms : List Int) (H' : Hp), Xci.Mk H' v ms → MarksOk 6 ms → Deck H' a l → Fr a H H' → Q v H'
abbrev Ent : Type := List Int × Str
def EntV (H : Hp) (v : V) (e : Ent) : Prop := ∃ u, Tup H v [u, .str e.2] ∧ Xci.Mk H u e.1
theorem EntV.keep {H H' : Hp} {v : V} {e : Ent} (f : TFr H H') (t : EntV H v e) : EntV H' v e := by
  obtain ⟨u, h, g⟩ := t
  exact ⟨u, h.keep f, Tup.keep f g⟩
structure EntOk (e : Ent) : Prop where
  ms : MarksOk 6 e.1
  w : WordOk e.2
abbrev Ents (H : Hp) (vs : List V) (es : List Ent) : Prop := Paired (fun v e => EntV H v e) vs es
theorem Ents.keep {H H' : Hp} {vs : List V} {es : List Ent} (f : TFr H H') (t : Ents H vs es) : Ents H' vs es := Paired.mapP t fun _ _ h => EntV.keep f h
def spEntries (K : PySem.W.Frag) : Sp := fun vs H Q _ => ∃ (a l p q : Addr) (ys : List V) (cells : List (List Int)) (zs : List Str) (m : Int), vs = [.ref a, .ref p, .ref q, .int m] ∧ Deck H a l ∧ p ≠ a ∧ Sq0 H p ys ∧ Mks H ys cells ∧ cells ≠ [] ∧ cells.length ≤ 1000 ∧ (∀ c ∈ cells, MarksOk 6 c) ∧
  H q = some (.lst (zs.map V.str)) ∧ q ≠ a ∧ zs ≠ [] ∧ zs.length ≤ 1000 ∧ (∀ z ∈ zs, WordOk z) ∧ 0 ≤ m ∧ m ≤ 1000 ∧
  ∀ (r : Addr) (vs' : List V) (es : List Ent) (H' : Hp), H' r = some (.tup vs') → Ents H' vs' es → (es.length : Int) ≤ m → (∀ e ∈ es, EntOk e) → Deck H' a l → Fr a H H' → Q (.ref r) H'
theorem int_of {ns : List Int} {i : Nat} {y : V} (h : (ns.map V.int)[i]? = some y) : ∃ z, ns[i]? = some z ∧ y = V.int z := by
  rw [List.getElem?_map] at h
  cases e : ns[i]? with
  | none => rw [e] at h; cases h
  | some z => rw [e] at h; exact ⟨z, rfl, (Option.some.inj h).symm⟩
theorem mod_bd (x : Int) {m : Int} (h : 0 < m) : 0 ≤ x % m ∧ x % m < m := ⟨Int.emod_nonneg _ (by omega), Int.emod_lt_of_pos _ h⟩
theorem cut63 (ns : List Int) : cutV (ns.map V.int) none (some 63) = (ns.take 63).map V.int := by
  unfold cutV
  have e0 : HT.sIx (ns.map V.int).length 0 none = 0 := rfl
  rw [e0]
  have e1 : HT.sIx (ns.map V.int).length (ns.map V.int).length (some 63) = min 63 ns.length := by
    unfold HT.sIx
    simp
    try omega
  rw [e1, List.drop_zero, List.map_take]
  simp only [Nat.sub_zero]
  rw [Nat.min_comm]
  by_cases h : ns.length ≤ 63
  · rw [Nat.min_eq_left h, List.take_of_length_le (by simp), List.take_of_length_le (by simpa using h)]
  · rw [Nat.min_eq_right (by omega)]

def inside (ms ns : List Int) : Bool := ms.all fun m => decide (m ∈ ns)
theorem asc_len {n : Int} : ∀ {ms : List Int} {lo : Int}, ms.Pairwise (· < ·) → (∀ m ∈ ms, lo ≤ m ∧ m < n) → ms.length ≤ (n - lo).toNat
  | [], _, _, _ => Nat.zero_le _
  | m :: r, lo, hp, hb => by
    obtain ⟨h1, h2⟩ := List.pairwise_cons.mp hp
    have b := hb m (by simp)
    have ih := asc_len (n := n) (ms := r) (lo := m + 1) h2 fun k hk => ⟨by have := h1 k hk; omega, (hb k (List.mem_cons_of_mem _ hk)).2⟩
    rw [List.length_cons]
    omega
theorem MarksOk.len {n : Int} {ms : List Int} (h : MarksOk n ms) : ms.length ≤ n.toNat := by
  have := asc_len (n := n) (lo := 0) h.up fun m hm => ⟨h.lo m hm, h.hi m hm⟩
  simpa using this
theorem inV_int (m : Int) (ns : List Int) : inV (.int m) (ns.map V.int) = decide (m ∈ ns) := by
  unfold inV
  rw [List.any_map]
  induction ns with
  | nil => rfl
  | cons a r ih =>
    rw [List.any_cons, ih]
    show ((a == m) || decide (m ∈ r)) = decide (m ∈ a :: r)
    by_cases h : a = m
    · subst h; simp
    · have h' : ¬ m = a := fun e => h e.symm
      simp [h, h']
theorem inV_str (m : Str) (ns : List Str) : inV (.str m) (ns.map V.str) = decide (m ∈ ns) := by
  unfold inV
  rw [List.any_map]
  induction ns with
  | nil => rfl
  | cons a r ih =>
    rw [List.any_cons, ih]
    show ((a == m) || decide (m ∈ r)) = decide (m ∈ a :: r)
    by_cases h : a = m
    · subst h; simp
    · have h' : ¬ m = a := fun e => h e.symm
      simp [h, h']
theorem flat_ints (ns : List Int) : (ns.map V.int).all flatV = true := by
  rw [List.all_map]; exact List.all_eq_true.mpr fun _ _ => rfl
theorem flat_strs (ns : List Str) : (ns.map V.str).all flatV = true := by
  rw [List.all_map]; exact List.all_eq_true.mpr fun _ _ => rfl
theorem str_of {ns : List Str} {i : Nat} {y : V} (h : (ns.map V.str)[i]? = some y) : ∃ z, ns[i]? = some z ∧ y = V.str z := by
  rw [List.getElem?_map] at h
  cases e : ns[i]? with
  | none => rw [e] at h; cases h
  | some z => rw [e] at h; exact ⟨z, rfl, (Option.some.inj h).symm⟩
def rng (n : Int) : List Int := (List.range n.toNat).map fun i => ((i : Nat) : Int)
theorem rgV_rng (n : Int) : rgV 0 n = (rng n).map V.int := by
  unfold rgV rng
  rw [List.map_map, Int.sub_zero]
  refine List.map_congr_left fun i _ => ?_
  show V.int (0 + (i : Nat)) = V.int (i : Nat)
  rw [Int.zero_add]
theorem rng_len (n : Int) : (rng n).length = n.toNat := by unfold rng; rw [List.length_map, List.length_range]
theorem rng_ok (n : Int) : MarksOk n (rng n) := by
  refine ⟨?_, fun m hm => ?_, fun m hm => ?_⟩
  · unfold rng
    rw [List.pairwise_map]
    exact List.pairwise_lt_range.imp fun h => by omega
  · obtain ⟨i, hi, rfl⟩ := List.mem_map.mp hm
    omega
  · obtain ⟨i, hi, rfl⟩ := List.mem_map.mp hm
    have := List.mem_range.mp hi
    omega
theorem MarksOk.nd {n : Int} {ms : List Int} (h : MarksOk n ms) : ms.Nodup := h.up.imp fun h e => by omega
def spIn : Sp := fun vs H Q _ => ∃ (u v : V) (ms ns : List Int), vs = [u, v] ∧ Xci.Mk H u ms ∧ Xci.Mk H v ns ∧ ms.length ≤ 1000 ∧ ∀ H', Same H H' → Q (.bl (inside ms ns)) H'
end Xci

namespace Xci
open PySem L2
/-! ### books -/
/-- the numbers that the top has written -/
structure Cst (mg : Str → Option Value) where
  t1 : Tok
  t2 : Tok
  t3 : Tok
  t4 : Tok
  LONGEST_FORM : mg "LONGEST_FORM" = some (.int 8 t1)
  MARKS : mg "MARKS" = some (.int 6 t2)
  MOST_ENTRIES : mg "MOST_ENTRIES" = some (.int 40 t3)
  MOST_WEIGHT : mg "MOST_WEIGHT" = some (.int 1000000 t4)
/-- the class Book, the tuple of the manners -/
structure BkTxt (K : PySem.W.Frag) (mg : Str → Option Value) (C aM : Addr) : Prop where
  cl : Cls K C
  nM : NoAttr K C "manner"
  nE : NoAttr K C "entries"
  nW : NoAttr K C "weights"
  mgC : mg "Book" = some (.ref C)
  mgM : mg "MANNERS" = some (.ref aM)
  man : ∀ H : Hp, SqT K H aM [.str "row", .str "within", .str "weights", .str "most"]
def bf (man : Str) (p : Addr) (wt : V) : List (Str × V) := [("manner", .str man), ("entries", .ref p), ("weights", wt)]
theorem n_me : ¬ (("manner" : Str) = "entries") := by decide +kernel
theorem n_mw : ¬ (("manner" : Str) = "weights") := by decide +kernel
theorem n_ew : ¬ (("entries" : Str) = "weights") := by decide +kernel
theorem n_em : ¬ (("entries" : Str) = "manner") := by decide +kernel
theorem n_wm : ¬ (("weights" : Str) = "manner") := by decide +kernel
theorem n_we : ¬ (("weights" : Str) = "entries") := by decide +kernel
theorem put1 (v : V) : putF "manner" v [] = [(("manner" : Str), v)] := rfl
theorem put2 (v u : V) : putF "entries" u [(("manner" : Str), v)] = [(("manner" : Str), v), (("entries" : Str), u)] := by
  show (if ("manner" : Str) = "entries" then _ else (("manner" : Str), v) :: putF "entries" u []) = _
  rw [if_neg n_me]; rfl
theorem put3 (v u x : V) : putF "weights" x [(("manner" : Str), v), (("entries" : Str), u)] = [(("manner" : Str), v), (("entries" : Str), u), (("weights" : Str), x)] := by
  show (if ("manner" : Str) = "weights" then _ else (("manner" : Str), v) :: (if ("entries" : Str) = "weights" then _ else (("entries" : Str), u) :: putF "weights" x [])) = _
  rw [if_neg n_mw, if_neg n_ew]; rfl
theorem bf_manner (man : Str) (p : Addr) (wt : V) : (bf man p wt).lookup ("manner" : Str) = some (.str man) := by
  unfold bf
  rw [List.lookup_cons, show ((Str.ofString "manner" : Str) == Str.ofString "manner") = true from by decide +kernel]
theorem bf_entries (man : Str) (p : Addr) (wt : V) : (bf man p wt).lookup ("entries" : Str) = some (.ref p) := by
  unfold bf
  rw [List.lookup_cons, show ((Str.ofString "entries" : Str) == Str.ofString "manner") = false from by decide +kernel]
  rfl
theorem bf_weights (man : Str) (p : Addr) (wt : V) : (bf man p wt).lookup ("weights" : Str) = some wt := by
  unfold bf
  rw [List.lookup_cons, show ((Str.ofString "weights" : Str) == Str.ofString "manner") = false from by decide +kernel, List.lookup_cons, show ((Str.ofString "weights" : Str) == Str.ofString "entries") = false from by decide +kernel]
  rfl
def BookAt (C : Addr) (H : Hp) (b : Addr) (man : Str) (p : Addr) (wt : V) : Prop := ∃ dx, H b = some (.ins C dx (bf man p wt))
/-- the weights that go with the manner -/
def WtOk (H : Hp) (man : Str) (wt : V) : Prop := (man ≠ "weights" ∧ wt = .non) ∨ (man = "weights" ∧ ∃ ws : List Int, Xci.Mk H wt ws ∧ ws.length = 6 ∧ ∀ x ∈ ws, 0 ≤ x ∧ x ≤ 1000000)
theorem WtOk.keep {H H' : Hp} {man : Str} {wt : V} (f : TFr H H') (h : WtOk H man wt) : WtOk H' man wt := by
  rcases h with h | ⟨e, ws, m, r⟩
  · exact .inl h
  · exact .inr ⟨e, ws, Tup.keep f m, r⟩
def Man (man : Str) : Prop := man = "row" ∨ man = "within" ∨ man = "weights" ∨ man = "most"
def spIsInteger : Sp := fun vs H Q _ => ∃ i : Int, vs = [.int i] ∧ Q (.bl true) H
def spBetween : Sp := fun vs H Q _ => ∃ lo hi x : Int, vs = [.int lo, .int hi, .int x] ∧ Q (.bl (decide (lo ≤ x ∧ x ≤ hi))) H
def spIsCell : Sp := fun vs H Q _ => ∃ (n : Int) (v : V) (ms : List Int), vs = [.int n, v] ∧ Xci.Mk H v ms ∧ MarksOk n ms ∧ Q (.bl true) H
def spIsForm : Sp := fun vs H Q _ => ∃ z : Str, vs = [.str z] ∧ WordOk z ∧ Q (.bl true) H
def spLies : Sp := fun vs H Q _ => ∃ (u v : V) (ms ns : List Int), vs = [u, v] ∧ Xci.Mk H u ms ∧ Xci.Mk H v ns ∧ Q (.bl (inside ms ns)) H
def spIsEntry : Sp := fun vs H Q _ => ∃ (v : V) (e : Ent), vs = [v] ∧ EntV H v e ∧ EntOk e ∧ Q (.bl true) H
def spAreEntries : Sp := fun vs H Q _ => ∃ (p : Addr) (ys : List V) (es : List Ent), vs = [.ref p] ∧ H p = some (.tup ys) ∧ Ents H ys es ∧ (∀ e ∈ es, EntOk e) ∧ es.length ≤ 40 ∧ Q (.bl true) H
def spAreWeights : Sp := fun vs H Q _ => ∃ (man : Str) (wt : V), vs = [.str man, wt] ∧ WtOk H man wt ∧ Q (.bl true) H
def spBook (C : Addr) : Sp := fun vs H Q _ => ∃ (x dx : Addr) (man : Str) (p : Addr) (wt : V) (ys : List V) (es : List Ent), vs = [.ref x, .str man, .ref p, wt] ∧ H x = some (.ins C dx []) ∧ Man man ∧ WtOk H man wt ∧ H p = some (.tup ys) ∧ Ents H ys es ∧ (∀ e ∈ es, EntOk e) ∧ es.length ≤ 40 ∧
  ∀ H' : Hp, BookAt C H' x man p wt → (∀ b o, H b = some o → b ≠ x → H' b = some o) → Q .non H'
/-- the entries that fit a cell, by their numbers -/
def fitP (es : List Ent) (ms : List Int) (i : Nat) : Bool := match es[i]? with
  | some e => inside e.1 ms
  | none => false
def fitN (es : List Ent) (ms : List Int) : List Nat := (List.range es.length).filter (fitP es ms)
def nat2 (js : List Nat) : List Int := js.map fun j => ((j : Nat) : Int)
def spFits (K : PySem.W.Frag) : Sp := fun vs H Q _ => ∃ (p : Addr) (v : V) (ys : List V) (es : List Ent) (ms : List Int), vs = [.ref p, v] ∧ H p = some (.tup ys) ∧ Ents H ys es ∧ (∀ e ∈ es, EntOk e) ∧ es.length ≤ 1000 ∧ Xci.Mk H v ms ∧
  ∀ (q : Addr) (H' : Hp), H' q = some (.lst ((nat2 (fitN es ms)).map V.int)) → Same H H' → Q (.ref q) H'
def spFitting (C : Addr) : Sp := fun vs H Q _ => ∃ (b p : Addr) (man : Str) (wt v : V) (ys : List V) (es : List Ent) (ms : List Int), vs = [.ref b, v] ∧ BookAt C H b man p wt ∧ H p = some (.tup ys) ∧ Ents H ys es ∧ (∀ e ∈ es, EntOk e) ∧ es.length ≤ 40 ∧ Xci.Mk H v ms ∧ MarksOk 6 ms ∧
  ∀ (q : Addr) (H' : Hp), H' q = some (.tup ((nat2 (fitN es ms)).map V.int)) → Same H H' → Q (.ref q) H'
def hd1 : List Nat → V
  | [] => .non
  | j :: _ => .int (j : Int)
def spSpeakingRow (C : Addr) : Sp := fun vs H Q _ => ∃ (b p q : Addr) (wt : V) (js : List Nat), vs = [.ref b, .ref q] ∧ BookAt C H b "row" p wt ∧ H q = some (.tup ((nat2 js).map V.int)) ∧ Q (hd1 js) H
def spk : List Nat → List V
  | [] => [.str "none"]
  | j :: _ => [.str "entry", .int (j : Int)]
def spSpeakerRow (C : Addr) : Sp := fun vs H Q _ => ∃ (b p : Addr) (wt v : V) (ys : List V) (es : List Ent) (ms : List Int), vs = [.ref b, v] ∧ BookAt C H b "row" p wt ∧ H p = some (.tup ys) ∧ Ents H ys es ∧ (∀ e ∈ es, EntOk e) ∧ es.length ≤ 40 ∧ Xci.Mk H v ms ∧ MarksOk 6 ms ∧
  ∀ (u : V) (H' : Hp), Tup H' u (spk (fitN es ms)) → Same H H' → Q u H'
def spSpeaksRow (K : PySem.W.Frag) : Sp := fun vs H Q _ => ∃ (p : Addr) (v : V) (ys : List V) (es : List Ent) (ms : List Int), vs = [.str "row", .ref p, .non, v] ∧ H p = some (.tup ys) ∧ Ents H ys es ∧ (∀ e ∈ es, EntOk e) ∧ es.length ≤ 1000 ∧ Xci.Mk H v ms ∧
  ∀ (u : V) (H' : Hp), Tup H' u (spk (fitN es ms)) → Same H H' → Q u H'
def flat0 : V → Bool
  | .int _ => true
  | .str _ => true
  | _ => false
def spLike0 : Sp := fun vs H Q _ => ∃ x : V, vs = [x, x] ∧ flat0 x = true ∧ ∀ H', Same H H' → Q (.bl true) H'
def spLike1 : Sp := fun vs H Q _ => ∃ (u v : V) (xs : List V), vs = [u, v] ∧ Tup H u xs ∧ Tup H v xs ∧ xs.all flat0 = true ∧ xs.length ≤ 1000 ∧ ∀ H', Same H H' → Q (.bl true) H'
theorem fit_take (es : List Ent) (ms : List Int) (i : Nat) : (List.range (i + 1)).filter (fitP es ms) = (List.range i).filter (fitP es ms) ++ if fitP es ms i = true then [i] else [] := by
  rw [List.range_succ, List.filter_append, List.filter_cons, List.filter_nil]
theorem nat2_app (xs ys : List Nat) : nat2 (xs ++ ys) = nat2 xs ++ nat2 ys := List.map_append
theorem fitP_at {es : List Ent} {ms : List Int} {i : Nat} {e : Ent} (h : es[i]? = some e) : fitP es ms i = inside e.1 ms := by unfold fitP; rw [h]
theorem fit_len (es : List Ent) (ms : List Int) (i : Nat) : (nat2 ((List.range i).filter (fitP es ms))).length ≤ i := by
  unfold nat2
  rw [List.length_map]
  exact Nat.le_trans (List.length_filter_le _ _) (by rw [List.length_range]; exact Nat.le_refl _)
theorem isi_tl {K : PySem.W.Frag} {a : String} (h1 : kitB a "tuple" = some false) (h2 : kitB a "list" = some false) : PySem.W.kitAny K (.type a) [.type "tuple", .type "list"] = some false :=
  kitAny_cons (b := false) (kit_ty h1) (fun _ => kitAny_cons (b := false) (kit_ty h2) (fun _ => kitAny_nil) (fun h => by cases h)) (fun h => by cases h)
theorem isi_tup {K : PySem.W.Frag} : PySem.W.kitAny K (.type "tuple") [.type "tuple", .type "list"] = some true :=
  kitAny_cons (b := true) (kit_ty (by decide +kernel)) (fun h => by cases h) (fun _ => rfl)
def toD : V → PyData
  | .int i => .int i
  | .str x => .str x
  | _ => .none
theorem dp_one {K : PySem.W.Frag} {H : Hp} {x : V} (h : flat0 x = true) : Dp K H x (toD x) := by
  cases x with
  | int i => exact .int i
  | str z => exact .str z
  | non => cases h
  | bl _ => cases h
  | byt _ => cases h
  | flt _ => cases h
  | ref _ => cases h
  | ty _ => cases h
theorem dp_all {K : PySem.W.Frag} {H : Hp} : ∀ {xs : List V}, xs.all flat0 = true → DpAll K H xs (xs.map toD)
  | [], _ => .nil
  | x :: r, h => by
    rw [List.all_cons, Bool.and_eq_true] at h
    exact .cons (dp_one h.1) (dp_all h.2)
theorem dp_tup {K : PySem.W.Frag} {H : Hp} {v : V} {xs : List V} (t : Tup H v xs) (h : xs.all flat0 = true) : Dp K H v (.tuple (xs.map toD)) := by
  obtain ⟨p, rfl, hp⟩ := t
  exact .tup (sqT hp) (dp_all h)
theorem sh1 : SeqAt.shaped (.tuple [.str "none"]) = true := by decide +kernel
theorem sh2 (i : Int) : SeqAt.shaped (.tuple [.str "entry", .int i]) = true := by
  have h : PyData.canLay0 (.str "entry") = true := by decide +kernel
  simp [SeqAt.shaped, PyData.canLay0, PyData.canLayAll0, PyData.depth, PyData.depthAll]
  simp [PyData.canLay0] at h
  exact h
theorem eqv1 (z : Str) : PyData.eqv (.tuple [.str z]) (.tuple [.str z]) = true := by
  simp [PyData.eqv, PyData.eqvAll]
theorem eqv2 (z : Str) (i j : Int) : PyData.eqv (.tuple [.str z, .int i]) (.tuple [.str z, .int j]) = decide (i = j) := by
  simp [PyData.eqv, PyData.eqvAll]
  try rw [Bool.eq_iff_iff]; simp

theorem fit_cons (e : Ent) (es : List Ent) (ms : List Int) : fitN (e :: es) ms = (if inside e.1 ms = true then [0] else []) ++ (fitN es ms).map (· + 1) := by
  unfold fitN
  rw [List.length_cons, List.range_succ_eq_map, List.filter_cons, List.filter_map]
  have h0 : fitP (e :: es) ms 0 = inside e.1 ms := rfl
  have h1 : (fitP (e :: es) ms ∘ Nat.succ) = fitP es ms := rfl
  rw [h0, h1]
  split <;> rfl
theorem fit_snoc (e : Ent) (es : List Ent) (ms : List Int) : fitN (es ++ [e]) ms = fitN es ms ++ (if inside e.1 ms = true then [es.length] else []) := by
  unfold fitN
  rw [List.length_append, List.length_singleton, List.range_succ, List.filter_append]
  have h0 : fitP (es ++ [e]) ms es.length = inside e.1 ms := by
    unfold fitP
    rw [List.getElem?_append_right (Nat.le_refl _), Nat.sub_self]
    rfl
  rw [List.filter_cons, List.filter_nil, h0]
  congr 1
  refine List.filter_congr fun i hi => ?_
  unfold fitP
  rw [List.getElem?_append_left (List.mem_range.mp hi)]
theorem cat_of {K : PySem.W.Frag} {H : Hp} {xs ys : List V} {a b : Addr} {Q : V → Hp → Prop} (ha : H a = some (.tup xs)) (hb : H b = some (.tup ys)) (hl : xs.length + ys.length ≤ sizeLine)
    (G : ∀ t H', H' t = some (.tup (xs ++ ys)) → Same H H' → Q (.ref t) H') : rCatA K (.ref a) (.ref b) H Q := by
  refine ⟨a, b, xs, ys, rfl, rfl, sqT ha, sqT hb, hl, fun e => ?_, fun _ e => ?_, fun _ _ p hp => ?_⟩
  · subst e
    exact G b H hb (Same.refl H)
  · subst e
    exact G a H (by rw [List.append_nil]; exact ha) (Same.refl H)
  · exact G p _ upd_same (Same.new hp)
theorem spk_flat (js : List Nat) : (spk js).all flat0 = true := by cases js <;> rfl
theorem spk_len (js : List Nat) : (spk js).length ≤ 1000 := by
  cases js with
  | nil => exact (by decide : 1 ≤ 1000)
  | cons j r => exact (by decide : 2 ≤ 1000)
theorem spk_sh (js : List Nat) : SeqAt.shaped (.tuple ((spk js).map toD)) = true := by
  cases js with
  | nil => exact sh1
  | cons j r => exact sh2 _
theorem spk_eqv (js : List Nat) : PyData.eqv (.tuple ((spk js).map toD)) (.tuple ((spk js).map toD)) = true := by
  cases js with
  | nil => exact eqv1 _
  | cons j r =>
    show PyData.eqv (.tuple [.str "entry", .int (j : Int)]) (.tuple [.str "entry", .int (j : Int)]) = true
    rw [eqv2]
    exact decide_eq_true rfl
theorem Same.tfr {H H' : Hp} (f : Same H H') : TFr H H' := TFr.same f
end Xci

namespace Xci
open PySem L2
/-! ### who speaks, by a relation «beats» -/
inductive Res where
  | none
  | ent (j : Nat)
  | qua (l : List Nat)
/-- n is in js and beats all others -/
def Win (js : List Nat) (beat : Nat → Nat → Bool) (n : Nat) : Prop := n ∈ js ∧ ∀ o ∈ js, o ≠ n → beat n o = true
structure Beat (beat : Nat → Nat → Bool) : Prop where
  irr : ∀ n, beat n n = false
  asy : ∀ n o, beat n o = true → beat o n = false
def winC (js : List Nat) (beat : Nat → Nat → Bool) (n : Nat) : Bool := decide ((js.filter (beat n)).length + 1 = js.length)
def maxB (js : List Nat) (beat : Nat → Nat → Bool) (n : Nat) : Bool := !js.any fun o => beat o n
def lawRes (js : List Nat) (beat : Nat → Nat → Bool) : Res :=
  if js = [] then .none else match js.find? (winC js beat) with
    | some n => .ent n
    | none => .qua (js.filter (maxB js beat))
theorem filt_add {α : Type} (p : α → Bool) : ∀ l : List α, (l.filter p).length + (l.filter fun x => !p x).length = l.length
  | [] => rfl
  | x :: r => by
    have ih := filt_add p r
    rw [List.filter_cons, List.filter_cons]
    cases h : p x
    · simp only [Bool.not_false, if_true, Bool.false_eq_true, if_false, List.length_cons]
      omega
    · simp only [Bool.not_true, if_true, Bool.false_eq_true, if_false, List.length_cons]
      omega
theorem filt_one {α : Type} [DecidableEq α] {p : α → Bool} {l : List α} {n : α} (hn : l.Nodup) (hm : n ∈ l) (hp : p n = true) : (l.filter p).length = 1 ↔ ∀ o ∈ l, o ≠ n → p o = false := by
  constructor
  · intro h o ho hne
    cases q : p o with
    | false => rfl
    | true =>
      obtain ⟨x, hx⟩ := List.length_eq_one_iff.mp h
      have h1 : n ∈ l.filter p := List.mem_filter.mpr ⟨hm, hp⟩
      have h2 : o ∈ l.filter p := List.mem_filter.mpr ⟨ho, q⟩
      rw [hx] at h1 h2
      rw [List.mem_singleton] at h1 h2
      exact absurd (h2.trans h1.symm) hne
  · intro h
    have nd : (l.filter p).Nodup := List.Sublist.nodup List.filter_sublist hn
    have h1 : n ∈ l.filter p := List.mem_filter.mpr ⟨hm, hp⟩
    have h2 : ∀ o ∈ l.filter p, o = n := fun o ho => by
      obtain ⟨a, b⟩ := List.mem_filter.mp ho
      by_cases e : o = n
      · exact e
      · rw [h o a e] at b; cases b
    match hl : l.filter p with
    | [] => rw [hl] at h1; cases h1
    | [x] => rfl
    | x :: y :: r =>
      rw [hl] at h2 nd
      have e1 := h2 x (by simp)
      have e2 := h2 y (by simp)
      rw [e1, e2] at nd
      exact absurd (by simp) (List.nodup_cons.mp nd).1
theorem winC_iff {js : List Nat} {beat : Nat → Nat → Bool} (B : Beat beat) (hn : js.Nodup) {n : Nat} (hm : n ∈ js) : winC js beat n = true ↔ Win js beat n := by
  unfold winC
  rw [decide_eq_true_iff]
  have h1 := filt_add (beat n) js
  have h2 := filt_one (p := fun x => !beat n x) hn hm (by simp [B.irr])
  constructor
  · intro h
    refine ⟨hm, fun o ho hne => ?_⟩
    have := h2.mp (by omega) o ho hne
    simpa using this
  · intro h
    have := h2.mpr fun o ho hne => by simp [h.2 o ho hne]
    omega
theorem Win.uniq {js : List Nat} {beat : Nat → Nat → Bool} (B : Beat beat) {n m : Nat} (h1 : Win js beat n) (h2 : Win js beat m) : n = m := by
  by_cases e : n = m
  · exact e
  · have a := h1.2 m h2.1 (fun q => e q.symm)
    have b := h2.2 n h1.1 e
    rw [B.asy _ _ a] at b
    cases b
theorem lawRes_nil (beat : Nat → Nat → Bool) : lawRes [] beat = .none := rfl
theorem lawRes_ent {js : List Nat} {beat : Nat → Nat → Bool} (B : Beat beat) (hn : js.Nodup) {n : Nat} (h : Win js beat n) : lawRes js beat = .ent n := by
  unfold lawRes
  rw [if_neg (by intro e; rw [e] at h; exact absurd h.1 (by simp))]
  cases q : js.find? (winC js beat) with
  | none =>
    have := List.find?_eq_none.mp q n h.1
    exact absurd ((winC_iff B hn h.1).mpr h) this
  | some m =>
    have h1 := List.find?_some q
    have h2 := List.mem_of_find?_eq_some q
    have e := Win.uniq B h ((winC_iff B hn h2).mp h1)
    rw [e]
theorem lawRes_qua {js : List Nat} {beat : Nat → Nat → Bool} (B : Beat beat) (hn : js.Nodup) (hne : js ≠ []) (h : ∀ n, ¬ Win js beat n) : lawRes js beat = .qua (js.filter (maxB js beat)) := by
  unfold lawRes
  rw [if_neg hne]
  cases q : js.find? (winC js beat) with
  | none => rfl
  | some m =>
    have h1 := List.find?_some q
    have h2 := List.mem_of_find?_eq_some q
    exact absurd ((winC_iff B hn h2).mp h1) (h m)
theorem lawRes_cases {js : List Nat} {beat : Nat → Nat → Bool} (B : Beat beat) (hn : js.Nodup) : (js = [] ∧ lawRes js beat = .none) ∨ (∃ n, Win js beat n ∧ lawRes js beat = .ent n) ∨ (js ≠ [] ∧ (∀ n, ¬ Win js beat n) ∧ lawRes js beat = .qua (js.filter (maxB js beat))) := by
  by_cases e : js = []
  · exact .inl ⟨e, by rw [e]; rfl⟩
  · by_cases h : ∃ n, Win js beat n
    · obtain ⟨n, h⟩ := h
      exact .inr (.inl ⟨n, h, lawRes_ent B hn h⟩)
    · have h' : ∀ n, ¬ Win js beat n := fun n q => h ⟨n, q⟩
      exact .inr (.inr ⟨e, h', lawRes_qua B hn e h'⟩)
/-- the same relation, the same result -/
theorem lawRes_congr {js : List Nat} {b1 b2 : Nat → Nat → Bool} (h : ∀ n ∈ js, ∀ o ∈ js, b1 n o = b2 n o) : lawRes js b1 = lawRes js b2 := by
  have e1 : ∀ n ∈ js, winC js b1 n = winC js b2 n := fun n hn => by
    unfold winC
    rw [List.filter_congr (h n hn)]
  have e2 : ∀ n ∈ js, maxB js b1 n = maxB js b2 n := fun n hn => by
    unfold maxB
    congr 1
    rw [Bool.eq_iff_iff, List.any_eq_true, List.any_eq_true]
    exact ⟨fun ⟨o, ho, q⟩ => ⟨o, ho, by rw [← h o ho n hn]; exact q⟩, fun ⟨o, ho, q⟩ => ⟨o, ho, by rw [h o ho n hn]; exact q⟩⟩
  have e3 : js.find? (winC js b1) = js.find? (winC js b2) := by
    have : ∀ l : List Nat, (∀ n ∈ l, winC js b1 n = winC js b2 n) → l.find? (winC js b1) = l.find? (winC js b2) := by
      intro l
      induction l with
      | nil => intro _; rfl
      | cons x r ih =>
        intro hl
        rw [List.find?_cons, List.find?_cons, hl x (by simp), ih fun n hn => hl n (List.mem_cons_of_mem _ hn)]
    exact this js e1
  unfold lawRes
  rw [e3, List.filter_congr e2]
/-- what the permuted book says -/
inductive Turned (g : Nat → Nat) : Res → Res → Prop
  | none : Turned g .none .none
  | ent (i : Nat) : Turned g (.ent i) (.ent (g i))
  | qua (l' l : List Nat) : (l'.map g).Perm l → Turned g (.qua l') (.qua l)
theorem lawRes_turned {js js' : List Nat} {beat beat' : Nat → Nat → Bool} {g : Nat → Nat} (B : Beat beat) (B' : Beat beat') (hn : js.Nodup) (hp : (js'.map g).Perm js) (hb : ∀ i ∈ js', ∀ o ∈ js', beat' i o = beat (g i) (g o)) : Turned g (lawRes js' beat') (lawRes js beat) := by
  have nd1 : (js'.map g).Nodup := hp.nodup_iff.mpr hn
  have nd' : js'.Nodup := (List.pairwise_map.mp nd1).imp fun h e => h (congrArg g e)
  have inj : ∀ i ∈ js', ∀ o ∈ js', g i = g o → i = o := fun i hi o ho e => by
    obtain ⟨a, ha⟩ := List.getElem?_of_mem hi
    obtain ⟨b, hb⟩ := List.getElem?_of_mem ho
    have q1 : (js'.map g)[a]? = some (g i) := by rw [List.getElem?_map, ha]; rfl
    have q2 : (js'.map g)[b]? = some (g i) := by rw [List.getElem?_map, hb, e]; rfl
    have := nd_ix nd1 q1 q2
    subst this
    exact Option.some.inj (ha.symm.trans hb)
  rcases lawRes_cases B' nd' with ⟨e, r⟩ | ⟨n, h, r⟩ | ⟨e, h, r⟩
  · subst e
    have : js = [] := by
      have := hp.length_eq
      exact List.eq_nil_of_length_eq_zero this.symm
    subst this
    rw [r, lawRes_nil]
    exact .none
  · rw [r, lawRes_ent B hn (n := g n)]
    · exact .ent n
    · refine ⟨hp.subset (List.mem_map_of_mem h.1), fun o ho hne => ?_⟩
      obtain ⟨i, hi, rfl⟩ := List.mem_map.mp (hp.symm.subset ho)
      rw [← hb n h.1 i hi]
      exact h.2 i hi fun e => hne (by rw [e])
  · have hne : js ≠ [] := fun e' => e (by
      rw [e'] at hp
      have := hp.length_eq
      rw [List.length_map] at this
      exact List.eq_nil_of_length_eq_zero this)
    rw [r, lawRes_qua B hn hne fun m hm => ?_]
    · refine .qua _ _ ?_
      have e1 : js'.filter (maxB js' beat') = js'.filter (fun i => maxB js beat (g i)) := by
        refine List.filter_congr fun i hi => ?_
        unfold maxB
        congr 1
        rw [Bool.eq_iff_iff, List.any_eq_true, List.any_eq_true]
        constructor
        · rintro ⟨o, ho, q⟩
          exact ⟨g o, hp.subset (List.mem_map_of_mem ho), by rw [← hb o ho i hi]; exact q⟩
        · rintro ⟨o, ho, q⟩
          obtain ⟨k, hk, rfl⟩ := List.mem_map.mp (hp.symm.subset ho)
          exact ⟨k, hk, by rw [hb k hk i hi]; exact q⟩
      rw [e1]
      have e2 : (js'.filter (fun i => maxB js beat (g i))).map g = (js'.map g).filter (maxB js beat) := by
        rw [List.filter_map]
        rfl
      rw [e2]
      exact hp.filter _
    · obtain ⟨i, hi, rfl⟩ := List.mem_map.mp (hp.symm.subset hm.1)
      refine h i ⟨hi, fun o ho hne => ?_⟩
      rw [hb i hi o ho]
      exact hm.2 (g o) (hp.subset (List.mem_map_of_mem ho)) fun e => hne (inj _ ho _ hi e)
end Xci

namespace Xci
open PySem PySem.Spec PyProof.Rows L2
/-- the tuple at a and the list at b as they stand at each turn, their items in new pairs -/
def ItzM (K : PySem.W.Frag) (a b : Addr) : It :=
  ⟨fun i H => ∃ (xs ys : List V) (x y : V), (SqT K H a xs ∧ SqL K H b ys) ∧ xs[i]? = some x ∧ ys[i]? = some y,
    fun i H v H' => ∃ T x y, v = .ref T ∧ (H T = none ∧ H' = upd H T (.tup [x, y])) ∧ (∀ xs, SqT K H a xs → xs[i]? = some x) ∧ ∀ ys, SqL K H b ys → ys[i]? = some y,
    fun i H => ∃ xs ys : List V, (SqT K H a xs ∧ SqL K H b ys) ∧ xs.length = ys.length ∧ i = xs.length⟩
/-- the state of such a zip at its i-th turn -/
def ZSt (z TI TO i1 i2 a b : Addr) (i : Nat) (h : Heap) : Prop := IsZip h z TI TO .none ∧ IsTupOf2 h TI (.ref i1) (.ref i2) ∧ (∃ p q, IsTupOf2 h TO p q) ∧ h.IsTupleIter i1 a i ∧ h.IsListIter i2 b i
theorem five {c z TI TO i1 i2 : Addr} (h : c ∈ [z, TI, TO, i1, i2]) : c = z ∨ c = TI ∨ c = TO ∨ c = i1 ∨ c = i2 := by simpa using h
theorem ZSt.low {z TI TO i1 i2 a b : Addr} {i : Nat} {h : Heap} (st : ZSt z TI TO i1 i2 a b i h) : ∀ c ∈ [z, TI, TO, i1, i2], c < h.objs.size := by
  obtain ⟨q1, q2, ⟨_, _, q3⟩, ⟨_, q4, _⟩, ⟨_, q5, _⟩⟩ := st
  intro c hc
  rcases five hc with e | e | e | e | e <;> subst e
  · exact Heap.lt_size q1
  · exact Heap.lt_size q2
  · exact Heap.lt_size q3
  · exact Heap.lt_size q4
  · exact Heap.lt_size q5
theorem turn_zipM {P : Program} {w : World} {K : PySem.W.Frag} {elts : List Expr} {kk : Nat} {tpos : Pos} {a b z TI TO i1 i2 : Addr} (S : ZipSep2 z TI TO i1 i2 [i1, a] [i2, b]) (n1 : a ≠ i1) (n2 : b ≠ i2) :
    Turn P w K (.Tuple elts kk tpos) (ItzM K a b) [z, TI, TO, i1, i2] z (ZSt z TI TO i1 i2 a b) where
  mem := by simp
  self := fun _ _ _ _ _ st q => wpAny_pyIter_zip st.1 q
  keep := fun i h h' st k => by
    obtain ⟨q1, q2, ⟨p, q, q3⟩, q4, q5⟩ := st
    exact ⟨k _ (by simp) _ q1, k _ (by simp) _ q2, ⟨p, q, k _ (by simp) _ q3⟩, q4.at fun o e => k _ (by simp) o e, q5.at fun o e => k _ (by simp) o e⟩
  obj := fun i h st c hc => by
    obtain ⟨q1, q2, ⟨_, _, q3⟩, ⟨o4, q4, _, d4⟩, ⟨o5, q5, _, d5⟩⟩ := st
    rcases five hc with e | e | e | e | e <;> subst e
    · exact ⟨_, q1, fun v q => nomatch q⟩
    · exact ⟨_, q2, fun v q => nomatch q⟩
    · exact ⟨_, q3, fun v q => nomatch q⟩
    · exact ⟨o4, q4, fun v q => by rw [d4] at q; cases q⟩
    · exact ⟨o5, q5, fun v q => by rw [d5] at q; cases q⟩
  item := by
    intro X hP hw hK hc i pins s σ H E I hf st hg
    subst hP hw hK
    have low := st.low
    obtain ⟨q1, q2, ⟨p, q, q3⟩, q4, q5⟩ := st
    obtain ⟨xs, ys, x, y, ⟨hx, hy⟩, ex, ey⟩ := hg
    obtain ⟨us, rx, tx, _⟩ := I.tuple hx
    obtain ⟨vs, ry, ty, _⟩ := I.list hy
    obtain ⟨u, eu, ru⟩ := rx.get ex
    obtain ⟨v, ev, rv⟩ := ry.get ey
    have lu : i < us.toArray.size := by simpa using (List.getElem?_eq_some_iff.mp eu).1
    have lv : i < vs.toArray.size := by simpa using (List.getElem?_eq_some_iff.mp ev).1
    have calm : X.A.in1.handled = none := I.ok.hd hc
    refine wpAny_pyNext_zipD2_item (prog := X.prog) (w := X.w) (A := X.A) S (Draws.tuple calm i1 a n1 us.toArray) (Draws.list calm i2 b n2 vs.toArray) q1 q2 q3 ⟨q4, tx⟩ ⟨q5, ty.isList⟩ lu lv fun u' v' h' tk eu' ev' z' TO' s1' s2' hT hsz hk => ?_
    obtain rfl : u' = u := Option.some.inj (eu'.symm.trans (by simpa using eu))
    obtain rfl : v' = v := Option.some.inj (ev'.symm.trans (by simpa using ev))
    refine ⟨_, rfl, wpAny_letOwnedTupleGo_zip (s := { s with heap := h', toks := tk }) z' fun h'' z'' sb => ?_⟩
    have zl : z < s.heap.objs.size := low z (by simp)
    have top : h''.get? s.heap.objs.size = some { cls := .type "tuple", data := .seq #[u', v'] } := (sb.2 _ (Nat.ne_of_gt zl)).trans hT
    have made : ObjOk X.prog X.w (upd H s.heap.objs.size (.tup [x, y])) h'' s.heap.objs.size (.tup [x, y]) := ⟨by show 2 ≤ sizeLine; decide, [u', v'], .cons ru (.cons rv .nil), _, top, rfl, _, rfl⟩
    have all : ∀ c o, c ∉ [z, TI, TO, i1, i2] → s.heap.get? c = some o → h''.get? c = some o := fun c o hb e =>
      (sb.2 c fun e' => hb (by simp [e'])).trans (hk c o (fun e' => hb (by simp [e'])) (fun e' => hb (by simp [e'])) (fun e' => hb (by simp [e'])) (fun e' => hb (by simp [e'])) e)
    have I1 : Inv X pins σ (upd H s.heap.objs.size (.tup [x, y])) { s with heap := h'', toks := tk } := I.turnedNew (ch := [z, TI, TO, i1, i2]) all hf (Nat.le_refl _) made
    refine ⟨.ref s.heap.objs.size, _, I1, rfl, ⟨_, x, y, rfl, ⟨I.hok.fresh (Nat.le_refl _), rfl⟩, fun l hl => by rw [I.tuple_inj hl hx]; exact ex, fun l hl => by rw [I.list_inj hl hy]; exact ey⟩, ⟨z'', ?_, ⟨u', v', ?_⟩, ?_, ?_⟩, fun c hcm => ?_⟩
    · exact (sb.2 _ S.TIz).trans (hk _ _ S.TIz S.TITO S.TIi1 S.TIi2 q2)
    · exact (sb.2 _ S.TOz).trans TO'
    · exact s1'.1.at fun o e => (sb.2 _ (Ne.symm S.zi1)).trans e
    · exact s2'.1.at fun o e => (sb.2 _ (Ne.symm S.zi2)).trans e
    · rw [upd_ne (Nat.ne_of_lt (low c hcm))]
      exact (hf c hcm).1
  done := by
    intro X hP hw hK hc i pins s σ H E I hf st hg
    subst hP hw hK
    obtain ⟨q1, q2, ⟨p, q, q3⟩, q4, q5⟩ := st
    obtain ⟨xs, ys, ⟨hx, hy⟩, el, rfl⟩ := hg
    obtain ⟨us, rx, tx, _⟩ := I.tuple hx
    obtain ⟨vs, ry, ty, _⟩ := I.list hy
    have l1 : xs.length = us.toArray.size := by rw [rx.length]; simp
    have l2 : ys.length = vs.toArray.size := by rw [ry.length]; simp
    have calm : X.A.in1.handled = none := I.ok.hd hc
    exact wpAny_pyNext_zipD2_end (prog := X.prog) (w := X.w) (A := X.A) S (Draws.tuple calm i1 a n1 us.toArray) (Draws.list calm i2 b n2 vs.toArray) q1 q2 q3 ⟨q4, tx⟩ ⟨q5, ty.isList⟩ (by omega) (by omega) (.inl l1) fun h' tk hk =>
      ⟨rfl, I.turnedL (t' := tk) (ch := [z, TI, TO, i1, i2]) (fun c o hb e => hk c o (fun e' => hb (by simp [e'])) (fun e' => hb (by simp [e'])) (fun e' => hb (by simp [e'])) (fun e' => hb (by simp [e'])) e) hf⟩
def iZipM (K : PySem.W.Frag) (ta : TA) : TI := fun σ H R => ta σ H fun vs H1 => ∃ a b xs ys, vs = [.ref a, .ref b] ∧ (SqT K H1 a xs ∧ SqL K H1 b ys) ∧ R (ItzM K a b) H1
theorem pi_zipM {X : Cx} {e e2 : Expr} {ta : TA} {p pos tpos : Pos} {elts : List Expr} {kk : Nat} (hg : Gl X "zip") (hm : X.mg "zip" = none) (ha : PA X [e, e2] ta)
    (hs : starEach [e, e2] X.env = (false, eval e X.env) :: starEach [e2] X.env := by rfl) (hpl : (backTo pos (starEach [e2] X.env)).any (·.1) = false := by rfl) :
    PI X (.Tuple elts kk tpos) (.Call (.Name "zip" p) [e, e2] [] pos) (iZipM X.K ta) := by
  refine ⟨fun pins s σ H R I h => Call_ (ld_blt I hg hm boot_zip (callWith_type1 (thn (ha.run pos pins s σ H _ I h) fun us s1 ⟨vs, H1, I1, r1, q1⟩ => ?_) hs hpl))⟩
  obtain ⟨a, b, xs, ys, rfl, ⟨hx, hy⟩, q⟩ := q1
  obtain ⟨u1, u2, rfl, r, r'⟩ := vals2 r1
  cases r
  cases r'
  obtain ⟨us, rx, tx, _⟩ := I1.tuple hx
  obtain ⟨vs, ry, ty, _⟩ := I1.list hy
  have al : a < s1.heap.objs.size := by obtain ⟨_, e, _⟩ := id tx; exact Heap.lt_size e
  have bl : b < s1.heap.objs.size := by obtain ⟨_, e, _⟩ := id ty.isList; exact Heap.lt_size e
  have sep := zip_sep2 (N := s1.heap.objs.size) (fp1 := [a]) (fp2 := [b]) (fun c hc => by rw [List.mem_singleton.mp hc]; exact al) (fun c hc => by rw [List.mem_singleton.mp hc]; exact bl)
  refine zip_begins2 (begins_tuple a us.toArray) (begins_list b vs.toArray) tx ty.isList fun h' z' TI' TO' o1 o2 hsz hk => wpAny_pyIter_zip z' ?_
  refine ⟨s1.heap.objs.size + 4, [s1.heap.objs.size + 4, s1.heap.objs.size + 2, s1.heap.objs.size + 3, s1.heap.objs.size, s1.heap.objs.size + 1], _, _, H1, rfl, I1.kept (t' := s1.toks) hk, turn_zipM sep (Nat.ne_of_lt al) (Nat.ne_of_lt (Nat.lt_succ_of_lt bl)),
    ⟨z', TI', ⟨_, _, TO'⟩, ⟨_, o1, rfl, rfl⟩, ⟨_, o2, rfl, rfl⟩⟩, fun c hc => ?_, q⟩
  have low : s1.heap.objs.size ≤ c := by
    rcases five hc with e | e | e | e | e <;> rw [e]
    · exact Nat.le_add_right _ _
    · exact Nat.le_add_right _ _
    · exact Nat.le_add_right _ _
    · exact Nat.le_refl _
    · exact Nat.le_add_right _ _
  exact I1.fpOk low (I1.hok.fresh low)
theorem walk_zipM {K : PySem.W.Frag} {a b : Addr} {xs ys : List V} (hl : xs.length = ys.length) : Walk (ItzM K a b) xs.length (fun H => SqT K H a xs ∧ SqL K H b ys) (fun i H v H' => ∃ T x y, v = .ref T ∧ H T = none ∧ H' = upd H T (.tup [x, y]) ∧ xs[i]? = some x ∧ ys[i]? = some y) :=
  ⟨fun i H hi q => ⟨xs, ys, xs[i], ys[i]'(hl ▸ hi), q, List.getElem?_eq_getElem hi, List.getElem?_eq_getElem (hl ▸ hi)⟩, fun H q => ⟨xs, ys, q, hl, rfl⟩, fun i H v H' hi q ⟨T, x, y, e1, ⟨e2, e3⟩, f, g⟩ => ⟨T, x, y, e1, e2, e3, f xs q.1, g ys q.2⟩⟩
end Xci

namespace Xci
open PySem L2
/-! ### the manners -/
def rk (man : Str) (ws : List Int) (ms : List Int) : Int := if man = "weights" then (ms.map fun m => ws.getD m.toNat 0).sum else (ms.length : Int)
def beatM (man : Str) (ws : List Int) (ms ns : List Int) : Bool := if man = "within" then inside ns ms && decide (ns.length < ms.length) else decide (rk man ws ns < rk man ws ms)
def mkA (es : List Ent) (j : Nat) : List Int := match es[j]? with
  | some e => e.1
  | none => []
def beatA (man : Str) (ws : List Int) (es : List Ent) (n o : Nat) : Bool := beatM man ws (mkA es n) (mkA es o)
theorem mkA_at {es : List Ent} {j : Nat} {e : Ent} (h : es[j]? = some e) : mkA es j = e.1 := by unfold mkA; rw [h]
theorem n_ww : ¬ (("within" : Str) = "weights") := by decide +kernel
theorem n_mostw : ¬ (("most" : Str) = "weights") := by decide +kernel
theorem n_mosti : ¬ (("most" : Str) = "within") := by decide +kernel
theorem n_wi : ¬ (("weights" : Str) = "within") := by decide +kernel
theorem beatM_ok (man : Str) (ws : List Int) (ms : List Int) : beatM man ws ms ms = false := by
  unfold beatM
  split
  · simp
  · exact decide_eq_false (by omega)
theorem beatM_asy {man : Str} {ws : List Int} {ms ns : List Int} (h : beatM man ws ms ns = true) : beatM man ws ns ms = false := by
  unfold beatM at h ⊢
  split at h
  · rename_i e
    rw [if_pos e]
    rw [Bool.and_eq_true, decide_eq_true_iff] at h
    have : decide (ms.length < ns.length) = false := decide_eq_false (by omega)
    rw [this, Bool.and_false]
  · rename_i e
    rw [if_neg e]
    rw [decide_eq_true_iff] at h
    exact decide_eq_false (by omega)
theorem beatA_ok (man : Str) (ws : List Int) (es : List Ent) : Beat (beatA man ws es) := ⟨fun n => beatM_ok _ _ _, fun n o h => beatM_asy h⟩
/-- the highest ones -/
def hi (js : List Nat) (r : Nat → Int) (m : Int) : List Nat := js.filter fun j => decide (r j = m)
structure IsMax (js : List Nat) (r : Nat → Int) (m : Int) : Prop where
  at_ : ∃ j ∈ js, r j = m
  le : ∀ j ∈ js, r j ≤ m
theorem hi_one {js : List Nat} {r : Nat → Int} {m : Int} {n : Nat} (M : IsMax js r m) (h : hi js r m = [n]) : n ∈ js ∧ r n = m ∧ ∀ o ∈ js, o ≠ n → r o < r n := by
  have h1 : n ∈ hi js r m := by rw [h]; simp
  obtain ⟨a, b⟩ := List.mem_filter.mp h1
  have b := of_decide_eq_true b
  refine ⟨a, b, fun o ho hne => ?_⟩
  have l := M.le o ho
  by_cases e : r o = m
  · have : o ∈ hi js r m := List.mem_filter.mpr ⟨ho, decide_eq_true e⟩
    rw [h] at this
    exact absurd (List.mem_singleton.mp this) hne
  · omega
theorem hi_many {js : List Nat} {r : Nat → Int} {m : Int} (hn : js.Nodup) (M : IsMax js r m) (h : 1 < (hi js r m).length) (x : Nat) (hx : x ∈ js) : ∃ o ∈ js, o ≠ x ∧ r x ≤ r o := by
  have nd : (hi js r m).Nodup := List.Sublist.nodup List.filter_sublist hn
  match hl : hi js r m with
  | [] => rw [hl] at h; simp at h
  | [y] => rw [hl] at h; simp at h
  | y :: z :: t =>
    rw [hl] at nd
    have hyz : y ≠ z := fun e => (List.nodup_cons.mp nd).1 (by rw [e]; simp)
    have hy : y ∈ hi js r m := by rw [hl]; simp
    have hz : z ∈ hi js r m := by rw [hl]; simp
    obtain ⟨a1, b1⟩ := List.mem_filter.mp hy
    obtain ⟨a2, b2⟩ := List.mem_filter.mp hz
    have b1 := of_decide_eq_true b1
    have b2 := of_decide_eq_true b2
    have l := M.le x hx
    by_cases e : y = x
    · exact ⟨z, a2, fun q => hyz (by rw [e, q]), by omega⟩
    · exact ⟨y, a1, e, by omega⟩
theorem hi_ne {js : List Nat} {r : Nat → Int} {m : Int} (M : IsMax js r m) : hi js r m ≠ [] := by
  obtain ⟨j, hj, e⟩ := M.at_
  intro q
  have : j ∈ hi js r m := List.mem_filter.mpr ⟨hj, decide_eq_true e⟩
  rw [q] at this
  cases this
def rkA (man : Str) (ws : List Int) (es : List Ent) (j : Nat) : Int := rk man ws (mkA es j)
/-- what beats has the greater rank -/
theorem beat_rk {man : Str} {ws : List Int} {es : List Ent} {n o : Nat} (hw : man ≠ "weights" ∨ man ≠ "within") (h : beatA man ws es n o = true) : rkA man ws es o < rkA man ws es n := by
  unfold beatA beatM at h
  split at h
  · rename_i e
    subst e
    rw [Bool.and_eq_true, decide_eq_true_iff] at h
    unfold rkA rk
    rw [if_neg n_ww, if_neg n_ww]
    omega
  · exact of_decide_eq_true h
theorem many_noWin {man : Str} {ws : List Int} {es : List Ent} {js : List Nat} {m : Int} (hn : js.Nodup) (M : IsMax js (rkA man ws es) m) (h : 1 < (hi js (rkA man ws es) m).length) (n : Nat) : ¬ Win js (beatA man ws es) n := fun w => by
  obtain ⟨o, ho, hne, l⟩ := hi_many hn M h n w.1
  have hw : man ≠ "weights" ∨ man ≠ "within" := by
    by_cases e : man = "weights"
    · exact .inr (by rw [e]; exact n_wi)
    · exact .inl e
  have := beat_rk hw (w.2 o ho hne)
  omega
theorem one_Win {man : Str} {ws : List Int} {es : List Ent} {js : List Nat} {m : Int} {n : Nat} (hm : man ≠ "within") (M : IsMax js (rkA man ws es) m) (h : hi js (rkA man ws es) m = [n]) : Win js (beatA man ws es) n := by
  obtain ⟨a, b, l⟩ := hi_one M h
  refine ⟨a, fun o ho hne => ?_⟩
  unfold beatA beatM
  rw [if_neg hm]
  exact decide_eq_true (l o ho hne)
def holds (es : List Ent) (js : List Nat) (n : Nat) : Bool := js.all fun o => inside (mkA es o) (mkA es n)
theorem rk_within (ws : List Int) (es : List Ent) (j : Nat) : rkA "within" ws es j = ((mkA es j).length : Int) := by
  unfold rkA rk
  rw [if_neg n_ww]
theorem within_Win {ws : List Int} {es : List Ent} {js : List Nat} {m : Int} {n : Nat} (M : IsMax js (rkA "within" ws es) m) (h : hi js (rkA "within" ws es) m = [n]) (hh : holds es js n = true) : Win js (beatA "within" ws es) n := by
  obtain ⟨a, b, l⟩ := hi_one M h
  refine ⟨a, fun o ho hne => ?_⟩
  unfold beatA beatM
  rw [if_pos rfl, Bool.and_eq_true]
  have := l o ho hne
  rw [rk_within, rk_within] at this
  exact ⟨List.all_eq_true.mp hh o ho, decide_eq_true (by omega)⟩
theorem within_noWin {ws : List Int} {es : List Ent} {js : List Nat} {m : Int} {n : Nat} (M : IsMax js (rkA "within" ws es) m) (h : hi js (rkA "within" ws es) m = [n]) (hh : holds es js n = false) (k : Nat) : ¬ Win js (beatA "within" ws es) k := fun w => by
  obtain ⟨a, b, l⟩ := hi_one M h
  have e : n = k := by
    by_cases e : n = k
    · exact e
    · have h1 := beat_rk (.inl n_ww) (w.2 n a e)
      have h2 := l k w.1 (fun q => e q.symm)
      omega
  subst e
  have : holds es js n = true := List.all_eq_true.mpr fun o ho => by
    by_cases e : o = n
    · subst e
      exact List.all_eq_true.mpr fun m hm => decide_eq_true hm
    · have q := w.2 o ho e
      unfold beatA beatM at q
      rw [if_pos rfl, Bool.and_eq_true] at q
      exact q.1
  rw [this] at hh
  cases hh
/-- without a greatest one: the highest are those whom none beats -/
theorem hi_maxB {man : Str} {ws : List Int} {es : List Ent} {js : List Nat} {m : Int} (hm : man ≠ "within") (M : IsMax js (rkA man ws es) m) : js.filter (maxB js (beatA man ws es)) = hi js (rkA man ws es) m := by
  unfold hi
  refine List.filter_congr fun j hj => ?_
  unfold maxB
  have l := M.le j hj
  rw [Bool.eq_iff_iff, decide_eq_true_iff, Bool.not_eq_true', List.any_eq_false]
  constructor
  · intro h
    obtain ⟨o, ho, e⟩ := M.at_
    have := h o ho
    unfold beatA beatM at this
    rw [if_neg hm] at this
    have q : ¬ rkA man ws es j < rkA man ws es o := fun z => this (decide_eq_true z)
    omega
  · intro h o ho
    unfold beatA beatM
    rw [if_neg hm]
    have l2 := M.le o ho
    intro z
    have z := of_decide_eq_true z
    have z : rkA man ws es j < rkA man ws es o := z
    omega
def outdone (es : List Ent) (js : List Nat) (n : Nat) : Bool := (js.filter fun o => decide ((mkA es n).length < (mkA es o).length)).any fun o => inside (mkA es n) (mkA es o)
theorem out_maxB {ws : List Int} {es : List Ent} {js : List Nat} : js.filter (maxB js (beatA "within" ws es)) = js.filter fun n => !outdone es js n := by
  refine List.filter_congr fun j hj => ?_
  unfold maxB outdone
  congr 1
  rw [List.any_filter]
  congr 1
  funext o
  unfold beatA beatM
  rw [if_pos rfl, Bool.and_comm]
/-! ### results as values -/
def ResAt (H : Hp) (v : V) : Res → Prop
  | .none => Tup H v [.str "none"]
  | .ent j => Tup H v [.str "entry", .int (j : Int)]
  | .qua l => ∃ t, Tup H v [.str "quarrel", .ref t] ∧ H t = some (.tup ((nat2 l).map V.int))
theorem ResAt.keep {H H' : Hp} {v : V} {r : Res} (f : TFr H H') (h : ResAt H v r) : ResAt H' v r := by
  cases r with
  | none => exact Tup.keep f h
  | ent j => exact Tup.keep f h
  | qua l =>
    obtain ⟨t, a, b⟩ := h
    exact ⟨t, a.keep f, f _ _ b⟩
def resD : Res → PyData
  | .none => .tuple [.str "none"]
  | .ent j => .tuple [.str "entry", .int (j : Int)]
  | .qua l => .tuple [.str "quarrel", .tuple ((nat2 l).map PyData.int)]
theorem toD_ints (ns : List Int) : (ns.map V.int).map toD = ns.map PyData.int := by
  rw [List.map_map]
  rfl
theorem flat0_ints (ns : List Int) : (ns.map V.int).all flat0 = true := by
  rw [List.all_map]; exact List.all_eq_true.mpr fun _ _ => rfl
theorem dp_res {K : PySem.W.Frag} {H : Hp} {v : V} {r : Res} (h : ResAt H v r) : Dp K H v (resD r) := by
  cases r with
  | none => exact dp_tup h rfl
  | ent j => exact dp_tup h rfl
  | qua l =>
    obtain ⟨t, ⟨p, rfl, hp⟩, ht⟩ := h
    have q := dp_tup (K := K) (v := .ref t) ⟨t, rfl, ht⟩ (flat0_ints (nat2 l))
    rw [toD_ints] at q
    exact .tup (sqT hp) (.cons (.str _) (.cons q .nil))
theorem lay_ints (ns : List Int) : PyData.canLayAll0 (ns.map PyData.int) = true ∧ PyData.depthAll (ns.map PyData.int) = 0 := by
  induction ns with
  | nil => exact ⟨rfl, rfl⟩
  | cons n r ih =>
    rw [List.map_cons]
    simp [PyData.canLayAll0, PyData.depthAll, PyData.canLay0, PyData.depth, ih.1, ih.2]
theorem sh_ints (ns : List Int) : SeqAt.shaped (.list (ns.map PyData.int)) = true := by
  obtain ⟨a, b⟩ := lay_ints ns
  simp [SeqAt.shaped, PyData.canLay0, PyData.depth, a, b]
theorem eqv_ints (ns : List Int) : PyData.eqvAll (ns.map PyData.int) (ns.map PyData.int) = true := by
  induction ns with
  | nil => rfl
  | cons n r ih =>
    rw [List.map_cons]
    simp [PyData.eqvAll, PyData.eqv, ih]
theorem sh_res (r : Res) : SeqAt.shaped (resD r) = true := by
  cases r with
  | none => exact sh1
  | ent j => exact sh2 _
  | qua l =>
    obtain ⟨a, b⟩ := lay_ints (nat2 l)
    have h : PyData.canLay0 (.str "quarrel") = true := by decide +kernel
    simp [resD, SeqAt.shaped, PyData.canLay0, PyData.canLayAll0, PyData.depth, PyData.depthAll, a, b]
    simpa [PyData.canLay0] using h
theorem eqv_res (r : Res) : PyData.eqv (resD r) (resD r) = true := by
  cases r with
  | none => exact eqv1 _
  | ent j =>
    show PyData.eqv (.tuple [.str "entry", .int (j : Int)]) (.tuple [.str "entry", .int (j : Int)]) = true
    rw [eqv2]
    exact decide_eq_true rfl
  | qua l =>
    have := eqv_ints (nat2 l)
    simp [resD, PyData.eqv, PyData.eqvAll, this]
/-! ### books of all manners -/
def WtIs (H : Hp) (man : Str) (wt : V) (ws : List Int) : Prop := (man ≠ "weights" ∧ wt = .non) ∨ (man = "weights" ∧ Xci.Mk H wt ws ∧ ws.length = 6 ∧ ∀ x ∈ ws, 0 ≤ x ∧ x ≤ 1000000)
theorem WtIs.keep {H H' : Hp} {man : Str} {wt : V} {ws : List Int} (f : TFr H H') (h : WtIs H man wt ws) : WtIs H' man wt ws := h.imp id fun ⟨a, b, c⟩ => ⟨a, Tup.keep f b, c⟩
theorem WtIs.ok {H : Hp} {man : Str} {wt : V} {ws : List Int} (h : WtIs H man wt ws) : WtOk H man wt := h.imp id fun ⟨a, b, c⟩ => ⟨a, ws, b, c⟩
structure BookSt (C : Addr) (H : Hp) (b : Addr) (man : Str) (ws : List Int) (es : List Ent) : Prop where
  ex : ∃ (p : Addr) (wt : V) (ys : List V), BookAt C H b man p wt ∧ H p = some (.tup ys) ∧ Ents H ys es ∧ WtIs H man wt ws
  ok : ∀ e ∈ es, EntOk e
  len : es.length ≤ 40
theorem BookSt.same {C : Addr} {H H' : Hp} {b : Addr} {man : Str} {ws : List Int} {es : List Ent} (h : BookSt C H b man ws es) (f : Same H H') : BookSt C H' b man ws es := by
  obtain ⟨⟨p, wt, ys, ⟨dx, a1⟩, a2, a3, a4⟩, b1, b2⟩ := h
  exact ⟨⟨p, wt, ys, ⟨dx, f _ _ a1⟩, f _ _ a2, Ents.keep (TFr.same f) a3, a4.keep (TFr.same f)⟩, b1, b2⟩
/-- the numbers js, all of entries -/
def Nums (H : Hp) (q : Addr) (js : List Nat) : Prop := H q = some (.tup ((nat2 js).map V.int))
theorem num_of {js : List Nat} {i : Nat} {y : V} (h : ((nat2 js).map V.int)[i]? = some y) : ∃ j, js[i]? = some j ∧ y = V.int (j : Int) := by
  obtain ⟨z, hz, rfl⟩ := int_of h
  unfold nat2 at hz
  rw [List.getElem?_map] at hz
  cases e : js[i]? with
  | none => rw [e] at hz; cases hz
  | some j => rw [e] at hz; exact ⟨j, rfl, by rw [← Option.some.inj hz]⟩
theorem nat2_len (js : List Nat) : (nat2 js).length = js.length := by unfold nat2; rw [List.length_map]
def spRank (C : Addr) : Sp := fun vs H Q _ => ∃ (b : Addr) (man : Str) (ws : List Int) (es : List Ent) (j : Nat), vs = [.ref b, .int (j : Int)] ∧ BookSt C H b man ws es ∧ j < es.length ∧ ∀ H', Same H H' → Q (.int (rkA man ws es j)) H'
def spHighest (C : Addr) : Sp := fun vs H Q _ => ∃ (b q : Addr) (man : Str) (ws : List Int) (es : List Ent) (js : List Nat), vs = [.ref b, .ref q] ∧ BookSt C H b man ws es ∧ Nums H q js ∧ (∀ j ∈ js, j < es.length) ∧ js ≠ [] ∧ js.length ≤ 40 ∧
  ∀ (t : Addr) (m : Int) (H' : Hp), IsMax js (rkA man ws es) m → Nums H' t (hi js (rkA man ws es) m) → Same H H' → Q (.ref t) H'
def spHolds (C : Addr) : Sp := fun vs H Q _ => ∃ (b q : Addr) (man : Str) (ws : List Int) (es : List Ent) (js : List Nat) (n : Nat), vs = [.ref b, .int (n : Int), .ref q] ∧ BookSt C H b man ws es ∧ Nums H q js ∧ (∀ j ∈ js, j < es.length) ∧ n < es.length ∧ js.length ≤ 40 ∧ ∀ H', Same H H' → Q (.bl (holds es js n)) H'
def spOutdone (C : Addr) : Sp := fun vs H Q _ => ∃ (b q : Addr) (man : Str) (ws : List Int) (es : List Ent) (js : List Nat) (n : Nat), vs = [.ref b, .int (n : Int), .ref q] ∧ BookSt C H b man ws es ∧ Nums H q js ∧ (∀ j ∈ js, j < es.length) ∧ n < es.length ∧ js.length ≤ 40 ∧ ∀ H', Same H H' → Q (.bl (outdone es js n)) H'
def Man3 (man : Str) : Prop := man = "within" ∨ man = "weights" ∨ man = "most"
def spQuarrel (C : Addr) : Sp := fun vs H Q _ => ∃ (b q : Addr) (man : Str) (ws : List Int) (es : List Ent) (js : List Nat), vs = [.ref b, .ref q] ∧ BookSt C H b man ws es ∧ Nums H q js ∧ (∀ j ∈ js, j < es.length) ∧ js ≠ [] ∧ js.length ≤ 40 ∧
  ∀ (t : Addr) (H' : Hp), Nums H' t (js.filter (maxB js (beatA man ws es))) → Same H H' → Q (.ref t) H'
def resV : Res → V
  | .ent j => .int (j : Int)
  | _ => .non
def spSpeaking (C : Addr) : Sp := fun vs H Q _ => ∃ (b q : Addr) (man : Str) (ws : List Int) (es : List Ent) (js : List Nat), vs = [.ref b, .ref q] ∧ BookSt C H b man ws es ∧ Man3 man ∧ Nums H q js ∧ (∀ j ∈ js, j < es.length) ∧ js.Nodup ∧ js.length ≤ 40 ∧
  ∀ H', Same H H' → Q (resV (lawRes js (beatA man ws es))) H'
def spSpeaker (C : Addr) : Sp := fun vs H Q _ => ∃ (b : Addr) (v : V) (man : Str) (ws : List Int) (es : List Ent) (ms : List Int), vs = [.ref b, v] ∧ BookSt C H b man ws es ∧ Man3 man ∧ Xci.Mk H v ms ∧ MarksOk 6 ms ∧
  ∀ (u : V) (H' : Hp), ResAt H' u (lawRes (fitN es ms) (beatA man ws es)) → Same H H' → Q u H'
def spBeats : Sp := fun vs H Q _ => ∃ (man : Str) (wt u v : V) (ws ms ns : List Int), vs = [.str man, wt, u, v] ∧ Man3 man ∧ WtIs H man wt ws ∧ Xci.Mk H u ms ∧ Xci.Mk H v ns ∧ MarksOk 6 ms ∧ MarksOk 6 ns ∧ ∀ H', Same H H' → Q (.bl (beatM man ws ms ns)) H'
def spSum : Sp := fun vs H Q _ => ∃ (wt u : V) (ws ms : List Int), vs = [wt, u] ∧ Xci.Mk H wt ws ∧ ws.length = 6 ∧ Xci.Mk H u ms ∧ MarksOk 6 ms ∧ ∀ H', Same H H' → Q (.int (ms.map fun m => ws.getD m.toNat 0).sum) H'
def spProper : Sp := fun vs H Q _ => ∃ (u v : V) (ms ns : List Int), vs = [u, v] ∧ Xci.Mk H u ms ∧ Xci.Mk H v ns ∧ ms.length ≤ 1000 ∧ ∀ H', Same H H' → Q (.bl (inside ms ns && decide (ms.length < ns.length))) H'
def spSpeaks (K : PySem.W.Frag) : Sp := fun vs H Q _ => ∃ (man : Str) (p : Addr) (wt v : V) (ys : List V) (ws : List Int) (es : List Ent) (ms : List Int), vs = [.str man, .ref p, wt, v] ∧ Man3 man ∧ WtIs H man wt ws ∧ H p = some (.tup ys) ∧ Ents H ys es ∧ (∀ e ∈ es, EntOk e) ∧ es.length ≤ 1000 ∧ Xci.Mk H v ms ∧
  ∀ (u : V) (H' : Hp), ResAt H' u (lawRes (fitN es ms) (beatA man ws es)) → Same H H' → Q u H'
theorem fit_nd (es : List Ent) (ms : List Int) : (fitN es ms).Nodup := List.Sublist.nodup List.filter_sublist List.nodup_range
theorem fit_lt {es : List Ent} {ms : List Int} : ∀ j ∈ fitN es ms, j < es.length := fun j hj => List.mem_range.mp (List.mem_filter.mp hj).1
theorem fitN_len (es : List Ent) (ms : List Int) : (fitN es ms).length ≤ es.length := Nat.le_trans (List.length_filter_le _ _) (by rw [List.length_range]; exact Nat.le_refl _)
end Xci

namespace Xci
open PySem L2
/-! ### a book in another order; weights twice, even weights; sorted lists -/
theorem made_book {C x dx : Addr} {H : Hp} {man : Str} {p : Addr} {wt : V} {ys : List V} {es : List Ent} {ws : List Int} {Q : VK} {E : XK} (nx : H x = Option.none) (ndx : H dx = Option.none) (hm : Man man) (hw : WtIs H man wt ws) (hp : H p = some (.tup ys)) (ents : Ents H ys es)
    (ok : ∀ e ∈ es, EntOk e) (len : es.length ≤ 40) (G : ∀ H', BookSt C H' x man ws es → Same H H' → Q .non H') : spBook C [.ref x, .str man, .ref p, wt] (upd (upd H dx (.own x)) x (.ins C dx [])) Q E := by
  have s3 : Same H (upd (upd H dx (.own x)) x (.ins C dx [])) := fun b o e => by rw [upd_ne (ne_of_none e nx), upd_ne (ne_of_none e ndx)]; exact e
  refine ⟨x, dx, man, p, wt, ys, es, rfl, upd_same, hm, (hw.keep (TFr.same s3)).ok, s3 _ _ hp, Ents.keep (TFr.same s3) ents, ok, len, fun H' hb kp => ?_⟩
  have s4 : Same H H' := fun b o e => kp b o (s3 b o e) (ne_of_none e nx)
  exact G H' ⟨⟨p, wt, ys, hb, s4 _ _ hp, Ents.keep (TFr.same s4) ents, hw.keep (TFr.same s4)⟩, ok, len⟩ s4
/-- esT holds the entries of es in the order ord -/
structure Picked (es : List Ent) (ord : List Nat) (esT : List Ent) : Prop where
  len : esT.length = ord.length
  at_ : ∀ (i j : Nat), ord[i]? = some j → esT[i]? = es[j]?
def gOf (ord : List Nat) (i : Nat) : Nat := ord.getD i 0
theorem gOf_at {ord : List Nat} {i j : Nat} (h : ord[i]? = some j) : gOf ord i = j := by
  unfold gOf
  rw [List.getD_eq_getElem?_getD, h]
  rfl
theorem Picked.snoc {es : List Ent} {ord : List Nat} {esT : List Ent} {i j : Nat} {e : Ent} (P : Picked es (ord.take i) esT) (hi : i ≤ ord.length) (h : ord[i]? = some j) (he : es[j]? = some e) : Picked es (ord.take (i + 1)) (esT ++ [e]) := by
  have hlt := (List.getElem?_eq_some_iff.mp h).1
  have el : esT.length = i := by rw [P.len, List.length_take]; omega
  have et : ord.take (i + 1) = ord.take i ++ [j] := by rw [List.take_add_one, h]; rfl
  refine ⟨by rw [List.length_append, el, List.length_take, List.length_singleton]; omega, fun k m hk => ?_⟩
  rw [et] at hk
  have tl : (ord.take i).length = i := by rw [List.length_take]; omega
  by_cases hki : k < i
  · rw [List.getElem?_append_left (by omega)] at hk
    rw [List.getElem?_append_left (by omega)]
    exact P.at_ k m hk
  · have hkl := (List.getElem?_eq_some_iff.mp hk).1
    rw [List.length_append, tl, List.length_singleton] at hkl
    have : k = i := by omega
    subst this
    rw [List.getElem?_append_right (by omega), tl, Nat.sub_self] at hk
    obtain rfl : j = m := Option.some.inj hk
    rw [List.getElem?_append_right (by omega), el, Nat.sub_self, he]
    rfl
theorem Picked.mk_ {es : List Ent} {ord : List Nat} {esT : List Ent} (P : Picked es ord esT) {i : Nat} (hi : i < ord.length) : mkA esT i = mkA es (gOf ord i) := by
  have h : ord[i]? = some ord[i] := List.getElem?_eq_getElem hi
  unfold mkA
  rw [gOf_at h, P.at_ i _ h]
theorem Picked.fit {es : List Ent} {ord : List Nat} {esT : List Ent} (P : Picked es ord esT) {i : Nat} (ms : List Int) (hi : i < ord.length) : fitP esT ms i = fitP es ms (gOf ord i) := by
  have h : ord[i]? = some ord[i] := List.getElem?_eq_getElem hi
  unfold fitP
  rw [gOf_at h, P.at_ i _ h]
theorem gOf_map (ord : List Nat) : (List.range ord.length).map (gOf ord) = ord := by
  refine List.ext_getElem? fun i => ?_
  rw [List.getElem?_map]
  by_cases hi : i < ord.length
  · rw [List.getElem?_eq_getElem (by rw [List.length_range]; exact hi), List.getElem_range, List.getElem?_eq_getElem hi]
    show some (gOf ord i) = _
    rw [gOf_at (List.getElem?_eq_getElem hi)]
  · rw [List.getElem?_eq_none (by rw [List.length_range]; omega), List.getElem?_eq_none (by omega)]
    rfl
theorem Picked.perm {es : List Ent} {ord : List Nat} {esT : List Ent} (P : Picked es ord esT) (hp : ord.Perm (List.range es.length)) (ms : List Int) : ((fitN esT ms).map (gOf ord)).Perm (fitN es ms) := by
  have e1 : fitN esT ms = (List.range ord.length).filter (fun i => fitP es ms (gOf ord i)) := by
    unfold fitN
    rw [P.len]
    exact List.filter_congr fun i hi => P.fit ms (List.mem_range.mp hi)
  have e2 : ((List.range ord.length).filter (fun i => fitP es ms (gOf ord i))).map (gOf ord) = ((List.range ord.length).map (gOf ord)).filter (fitP es ms) := by
    rw [List.filter_map]
    rfl
  rw [e1, e2, gOf_map]
  exact hp.filter _
theorem Picked.turned {es : List Ent} {ord : List Nat} {esT : List Ent} (P : Picked es ord esT) (hp : ord.Perm (List.range es.length)) (man : Str) (ws ms : List Int) :
    Turned (gOf ord) (lawRes (fitN esT ms) (beatA man ws esT)) (lawRes (fitN es ms) (beatA man ws es)) := by
  refine lawRes_turned (beatA_ok _ _ _) (beatA_ok _ _ _) (fit_nd es ms) (P.perm hp ms) fun i hi o ho => ?_
  have h1 : i < ord.length := by rw [← P.len]; exact fit_lt i hi
  have h2 : o < ord.length := by rw [← P.len]; exact fit_lt o ho
  unfold beatA
  rw [P.mk_ h1, P.mk_ h2]
theorem Picked.ok {es : List Ent} {ord : List Nat} {esT : List Ent} (P : Picked es ord esT) (h : ∀ e ∈ es, EntOk e) : ∀ e ∈ esT, EntOk e := by
  intro e he
  obtain ⟨i, hi⟩ := List.getElem?_of_mem he
  have hl := (List.getElem?_eq_some_iff.mp hi).1
  rw [P.len] at hl
  have := P.at_ i _ (List.getElem?_eq_getElem hl)
  rw [hi] at this
  exact h e (List.mem_of_getElem? this.symm)
theorem lawRes_asc {js : List Nat} {beat : Nat → Nat → Bool} (h : js.Pairwise (· < ·)) {l : List Nat} (e : lawRes js beat = .qua l) : l.Pairwise (· < ·) ∧ l.length ≤ js.length := by
  unfold lawRes at e
  split at e
  · cases e
  · split at e
    · cases e
    · obtain rfl := Res.qua.inj e
      exact ⟨h.sublist List.filter_sublist, List.length_filter_le _ _⟩
theorem fit_asc (es : List Ent) (ms : List Int) : (fitN es ms).Pairwise (· < ·) := List.pairwise_lt_range.sublist List.filter_sublist
/-- two ascending lists of the same items are one -/
theorem sorted_one : ∀ {xs ys : List Int}, xs.Perm ys → xs.Pairwise (· ≤ ·) → ys.Pairwise (· ≤ ·) → xs = ys
  | [], ys, p, _, _ => (List.nil_perm.mp p).symm
  | x :: r, [], p, _, _ => by have := p.length_eq; simp at this
  | x :: r, y :: t, p, hx, hy => by
    obtain ⟨a1, a2⟩ := List.pairwise_cons.mp hx
    obtain ⟨b1, b2⟩ := List.pairwise_cons.mp hy
    have e : x = y := by
      have m1 : x ∈ y :: t := p.subset (by simp)
      have m2 : y ∈ x :: r := p.symm.subset (by simp)
      rcases List.mem_cons.mp m1 with q1 | q1
      · exact q1
      · rcases List.mem_cons.mp m2 with q2 | q2
        · exact q2.symm
        · have := b1 x q1
          have := a1 y q2
          omega
    subst e
    rw [sorted_one (List.perm_cons x |>.mp p) a2 b2]
theorem nat2_asc {l : List Nat} (h : l.Pairwise (· < ·)) : (nat2 l).Pairwise (· ≤ ·) := by
  unfold nat2
  rw [List.pairwise_map]
  exact h.imp fun q => by omega
theorem nat2_perm {l k : List Nat} (h : l.Perm k) : (nat2 l).Perm (nat2 k) := h.map _
theorem dp_list {K : PySem.W.Frag} {H : Hp} {p : Addr} {ns : List Int} (h : H p = some (.lst (ns.map V.int))) : Dp K H (.ref p) (.list (ns.map PyData.int)) := by
  have q := dp_all (K := K) (H := H) (flat0_ints ns)
  rw [toD_ints] at q
  exact .lst (SqL.of h) q
/-! weights -/
theorem getD_twice {ws : List Int} {i : Nat} : (ws.map (2 * ·)).getD i 0 = 2 * ws.getD i 0 := by
  rw [List.getD_eq_getElem?_getD, List.getD_eq_getElem?_getD, List.getElem?_map]
  cases ws[i]? <;> simp
theorem sum_twice (ws ms : List Int) : (ms.map fun m => (ws.map (2 * ·)).getD m.toNat 0).sum = 2 * (ms.map fun m => ws.getD m.toNat 0).sum := by
  induction ms with
  | nil => rfl
  | cons m r ih =>
    rw [List.map_cons, List.map_cons, List.sum_cons, List.sum_cons, ih, getD_twice]
    omega
theorem beat_twice (ws ms ns : List Int) : beatM "weights" (ws.map (2 * ·)) ms ns = beatM "weights" ws ms ns := by
  unfold beatM rk
  rw [if_neg n_wi, if_pos rfl, if_pos rfl, if_neg n_wi, if_pos rfl, if_pos rfl, sum_twice, sum_twice, Bool.eq_iff_iff, decide_eq_true_iff, decide_eq_true_iff]
  omega
theorem getD_even {c : Int} {i : Nat} (h : i < 6) : (List.replicate 6 c).getD i 0 = c := by
  rw [List.getD_eq_getElem?_getD, List.getElem?_replicate, if_pos h]
  rfl
theorem sum_even {c : Int} {ms : List Int} (h : MarksOk 6 ms) : (ms.map fun m => (List.replicate 6 c).getD m.toNat 0).sum = c * ms.length := by
  have : ∀ ms : List Int, (∀ m ∈ ms, 0 ≤ m ∧ m < 6) → (ms.map fun m => (List.replicate 6 c).getD m.toNat 0).sum = c * ms.length := by
    intro ms
    induction ms with
    | nil => intro _; simp
    | cons m r ih =>
      intro hb
      have b := hb m (by simp)
      rw [List.map_cons, List.sum_cons, ih fun k hk => hb k (List.mem_cons_of_mem _ hk), getD_even (by omega), List.length_cons]
      have : c * ((r.length + 1 : Nat) : Int) = c * (r.length : Int) + c := by
        rw [Int.natCast_add, Int.mul_add]
        simp
      rw [this]
      omega
  exact this ms fun m hm => ⟨h.lo m hm, h.hi m hm⟩
theorem beat_even {c : Int} {ms ns ws : List Int} (hc : 1 ≤ c) (hm : MarksOk 6 ms) (hn : MarksOk 6 ns) : beatM "weights" (List.replicate 6 c) ms ns = beatM "most" ws ms ns := by
  unfold beatM rk
  rw [if_neg n_wi, if_pos rfl, if_pos rfl, if_neg n_mosti, if_neg n_mostw, if_neg n_mostw, sum_even hm, sum_even hn, Bool.eq_iff_iff, decide_eq_true_iff, decide_eq_true_iff]
  constructor
  · intro h
    exact Int.lt_of_mul_lt_mul_left h (by omega)
  · intro h
    exact Int.mul_lt_mul_of_pos_left h (by omega)
theorem mkA_ok {es : List Ent} (h : ∀ e ∈ es, EntOk e) (j : Nat) : MarksOk 6 (mkA es j) := by
  unfold mkA
  cases e : es[j]? with
  | none => exact ⟨.nil, by simp, by simp⟩
  | some x => exact (h x (List.mem_of_getElem? e)).ms
/-! max of a tuple of ints -/
end Xci
namespace Xci
open PySem PySem.Spec PyProof.Rows L2
theorem max_tup {prog : Program} {w : World} {A : Around} {E : Value → Shared → Prop} {s : Shared} {l : Addr} {its : List Value} {ns : List Int} {Q : Value → Shared → Prop} (hh : A.handled = none) (ht : s.heap.IsTuple l its.toArray) (hi : IntsAre its ns) (hne : 0 < ns.length)
    (h : ∀ h' tk M t', (∀ b o, s.heap.get? b = some o → h'.get? b = some o) → M ∈ ns → (∀ a, a ∈ ns → a ≤ M) → Q (.int M t') { s with heap := h', toks := tk }) : wpAny (model prog w) A (call (.builtin "max") [.ref l]) Q E s := by
  obtain ⟨xs, e⟩ := hi.allInts.items
  have hn : numsOf (intItems xs).toList = ns := e ▸ hi.numsOf
  rw [nums_intItems] at hn
  subst hn
  rw [e] at ht
  have pos : 0 < xs.size := by simpa using hne
  have below : l < s.heap.objs.size := by obtain ⟨_, q, _⟩ := id ht; exact Heap.lt_size q
  refine PySem.call_max_walk (wpAny_pyIter_tuple ht ?_)
  refine ⟨_, _, _, _, _, _, _, rfl, Walks.tuple (A := A.in1) hh s.heap.objs.size l (Nat.ne_of_lt below) (intItems xs), ⟨⟨_, Heap.get?_push_size _ rfl, rfl, rfl⟩, ht.at fun o q => Heap.get?_push_of_some _ q⟩, fun b hb => ?_, by simpa [intItems] using pos,
    CmpOf.ints_gt (numAt xs) (fun _ _ => intItems_at), fun v h' tk hv hk => ?_⟩
  · show b < (s.heap.push _).objs.size
    rw [Heap.size_push]
    have hb' : b = s.heap.objs.size ∨ b = l := by simpa using hb
    rcases hb' with q | q <;> rw [q]
    · exact Nat.lt_succ_self _
    · exact Nat.lt_succ_of_lt below
  have hv' : (intItems xs)[argBest (fun i j => decide (numAt xs i > numAt xs j)) (xs.size - 1)]? = some v := by simpa [intItems] using hv
  obtain ⟨t, rfl⟩ := intItems_at hv'
  obtain ⟨b1, b2⟩ := argBest_gt (numAt xs) (xs.size - 1)
  refine h h' tk _ t (fun b o q => ?_) ?_ fun a ha => ?_
  · refine hk b o (fun hm => ?_) (Heap.get?_push_of_some _ q)
    have hb' : b = s.heap.objs.size := by simpa using hm
    exact absurd (Heap.lt_size q) (by rw [hb']; exact Nat.lt_irrefl _)
  · rw [numAt_eq]
    exact PySem.getD_mem (by rw [List.length_map, Array.length_toList]; omega)
  · obtain ⟨j, hj, rfl⟩ := mem_getD ha
    rw [List.length_map, Array.length_toList] at hj
    rw [← numAt_eq]
    exact b2 j (by omega)
def rMaxT (K : PySem.W.Frag) : List V → Hp → VK → Prop := fun vs H Q => ∃ (a : Addr) (ns : List Int), vs = [V.ref a] ∧ SqT K H a (ns.map V.int) ∧ 0 < ns.length ∧ ∀ m, m ∈ ns → (∀ y, y ∈ ns → y ≤ m) → Q (.int m) H
theorem cr_maxT {X : Cx} (hc : X.calm = true) : CallR X (.builtin "max") (rMaxT X.K) := by
  intro pins s σ H vs us Q I r h
  obtain ⟨a, ns, rfl, hs, hne, q⟩ := h
  obtain ⟨its, rv, hl, _⟩ := I.tuple hs
  rw [Vals.ref1 r]
  exact max_tup (I.ok.hd hc) hl rv.ints hne fun h' tk m t' hk h1 h2 => ⟨.int m, H, I.kept hk, ⟨_, rfl⟩, q m h1 h2⟩
end Xci

namespace Xci
open PySem PySem.Spec PyProof.Rows L2
/-- a set as it is made, nothing in it -/
abbrev emptyO (w : World) : Obj := { cls := .type "set", dict := none, data := .set #[] 0 (.fresh 0 0 (!w.params.followText "set-order")) }
section
variable {P : Program} {w : World} {A : Around} {E : Value → Shared → Prop} {s : Shared}
/-- a type that makes a thing and fills it; what the filling is checked for is the caller's to tell -/
theorem made_and_filled {T newId initId : String} {args : List Value} {Q Made : Value → Shared → Prop} (ft : TypeCalled T newId initId) (fits : checkTypeCall T ⟨args, []⟩ = pure ())
    (making : codeAny (model P w) A.in1 (.call (.builtin newId) ⟨.type T :: args, []⟩) (wants Made E) s)
    (filling : ∀ v s1, Made v s1 → s1.TypeIs v T ∧ codeAny (model P w) A.in1 (.call (.builtin initId) ⟨v :: args, []⟩) (wants (fun r s2 => r = .none ∧ Q v s2) E) s1) :
    wpAny (model P w) A (call (.type T) args) Q E s := by
  have order := ft.mro
  have maker := ft.made
  have self := ft.sub
  have apart := ft.notType
  have may := ft.canCreate
  obtain ⟨_, _, order⟩ := order
  refine wpAny_call (codeAny_of_tree (show wpAny _ _ (callAny (.type T) _) _ _ _ from wpAny_pure ⟨Code.quiet_builtin _ (by decide +kernel), codeAny_builtin F.entry_type_call ?_⟩))
  rw [Around.under_plain (weight_type_call_type T args []) rfl]
  repeat (any_goals (first | assumption | wp_step))
  refine codeAny_mono making fun r s1 mr => ?_
  match r, mr with
  | .ok (.ret v), mr =>
    obtain ⟨isT, fill⟩ := filling v s1 mr
    have where_ := ft.init.lookup
    have bound := ft.init.bind v
    repeat (any_goals (first | assumption | wp_step))
    refine codeAny_mono fill fun r2 s2 fr => ?_
    match r2, fr with
    | .ok (.ret r), fr =>
      obtain ⟨rfl, done⟩ := fr
      repeat (any_goals (first | assumption | wp_step))
    | .error _, fr => exact fr
  | .error _, mr => exact mr
set_option maxHeartbeats 3200000 in
/-- set(a tuple of tuples of ints): what is told of it is what the loop over the tuple's walk leaves -/
theorem set_of_tuple {t : Addr} {items : Array Value} (ks : List (Addr × List Int)) {Q : Value → Shared → Prop} (hh : A.handled = none) (p : s.heap.IsTuple t items) (row : items.toList = ks.map fun p => Value.ref p.1)
    (hk : ∀ p ∈ ks, IsT P w s.heap p.2 p.1) (few : ks.length < 64) (hu : A.units + 3 < cLine)
    (q : ∀ h' tk L es ep tb, SetTR P w h' s.heap.objs.size L es ep tb → (∀ x, x ∈ L.map (·.2) ↔ x ∈ ks.map (·.2)) → (∀ b o, s.heap.get? b = some o → h'.get? b = some o) → Q (.ref s.heap.objs.size) { s with heap := h', toks := tk }) :
    wpAny (model P w) A (call (.type "set") [.ref t]) Q E s := by
  refine made_and_filled F.called_set (F.typeCall_set_1 _) (code_set_led1 (Q₁ := fun v s1 => v = .ref s.heap.objs.size ∧ s1 = { s with heap := s.heap.push (emptyO w) }) (.ref t) ⟨rfl, rfl⟩) ?_
  rintro _ _ ⟨rfl, rfl⟩
  have new : (s.heap.push (emptyO w)).get? s.heap.objs.size = some (emptyO w) := Heap.get?_push_size _ rfl
  refine ⟨⟨_, new, rfl⟩, codeAny_call_builtin F.called_set.init.plain F.entry_set_init (check_set_init_1 ⟨_, new, rfl⟩ ?_)⟩
  have old : ∀ b o, s.heap.get? b = some o → (s.heap.push (emptyO w)).get? b = some o := fun b o => Heap.get?_push_of_some _
  have tup : (s.heap.push (emptyO w)).IsTuple t items := p.at fun o => old t o
  have noSet := F.sub_tuple_set
  have noFrozen := F.sub_tuple_frozenset
  have noDict : (Value.type "tuple" == Value.type "dict") = false := by decide
  obtain ⟨o, at0, c0, n0, d0⟩ := id tup
  obtain ⟨oc, od, odat, osl⟩ := o
  cases c0
  cases d0
  unfold Builtin.«set.__init__» noKeywords Builtin.Frozenset.updateFrom
  generalize iterates : pyIter = PI
  wp_walk
  subst iterates
  refine wpAny_pyIter_tuple tup ?_
  refine wpAny_bind (wpAny_runValue ?_)
  have size1 : (s.heap.push (emptyO w)).objs.size = s.heap.objs.size + 1 := Heap.size_push ..
  have lt := Heap.lt_size (p.choose_spec.1)
  have count : items.size = ks.length := by rw [← Array.length_toList, row, List.length_map]
  have nowhere : ∀ b, s.heap.objs.size ≤ b → s.heap.get? b = none := fun b hb => by
    cases z : s.heap.get? b with
    | none => rfl
    | some o => exact absurd (Heap.lt_size z) (Nat.not_lt.mpr hb)
  have W := (Walks.tuple (prog := P) (w := w) (A := A.in1.in1.in1) (show A.in1.in1.in1.handled = none from hh) (s.heap.objs.size + 1) t (Nat.ne_of_lt (Nat.lt_succ_of_lt lt)) items).toS
  show codeAny _ _ (.builtin "set.update.loop" ⟨[.ref s.heap.objs.size, .ref (s.heap.push (emptyO w)).objs.size], []⟩) _ _
  rw [size1]
  refine set_update_tups W s.heap.objs.size ?_ ks count few (fun i v e => ?_) s.heap hk (nowhere _ (Nat.le_refl _)) (fun b hb => nowhere b ?_) (by simpa using hu) (items.size - 0) 0 _ rfl (Nat.zero_le _) ?_ (fun b o e => ?_) ⟨[], _, _, _, setTR_fresh ?_, Got.zero ks⟩ fun s' L es ep tb moved R got kept => ?_
  · intro z
    rcases List.mem_cons.mp z with z | z
    · exact absurd z (Nat.ne_of_lt (Nat.lt_succ_self _))
    · exact absurd (List.mem_singleton.mp z) (Nat.ne_of_gt lt)
  · rw [← Array.getElem?_toList, row, List.getElem?_map] at e
    obtain ⟨y, hy, ey⟩ := Option.map_eq_some_iff.mp e
    exact ⟨y, hy, ey.symm⟩
  · rw [List.mem_singleton.mp hb]
    exact Nat.le_succ _
  · refine ⟨⟨{ cls := .type "tuple_iterator", data := .fields #[.ref t, .int 0 0] }, ?_, rfl, rfl⟩, tup.at fun o => Heap.get?_push_of_some _⟩
    rw [← size1]
    exact Heap.get?_push_size _ rfl
  · exact Heap.get?_push_of_some _ (old b o e)
  · exact Heap.get?_push_of_some _ new
  · rw [count] at got
    have members : ∀ x, x ∈ L.map (·.2) ↔ x ∈ ks.map (·.2) := fun x => by
      constructor
      · intro z
        obtain ⟨y, hy, ey⟩ := List.mem_map.mp z
        exact ey ▸ List.mem_map_of_mem (List.mem_of_mem_take (got.sub y hy))
      · intro z
        obtain ⟨y, hy, ey⟩ := List.mem_map.mp z
        exact ey ▸ got.all y (by rw [List.take_length]; exact hy)
    obtain ⟨h', g', d', tk', os'⟩ := s'
    obtain ⟨_, rfl, ed, eo, _⟩ := moved
    cases (show d' = s.drawn from ed)
    cases (show os' = s.os from eo)
    exact wpAny_pure (wpAny_pure ⟨rfl, q h' tk' L es ep tb R members kept⟩)
end
theorem fewer_of_twice {α : Type} : ∀ (l : List α), ¬ l.Nodup → ∃ m : List α, m.length < l.length ∧ ∀ x ∈ l, x ∈ m
  | [], h => absurd List.nodup_nil h
  | x :: r, h => by
    by_cases hx : x ∈ r
    · refine ⟨r, Nat.lt_succ_self _, fun y hy => ?_⟩
      rcases List.mem_cons.mp hy with e | z
      · rw [e]; exact hx
      · exact z
    · obtain ⟨m, h1, h2⟩ := fewer_of_twice r fun z => h (List.nodup_cons.mpr ⟨hx, z⟩)
      refine ⟨x :: m, Nat.succ_lt_succ h1, fun y hy => ?_⟩
      rcases List.mem_cons.mp hy with e | z
      · rw [e]; exact List.mem_cons_self
      · exact List.mem_cons_of_mem _ (h2 y z)
theorem fits_in {α : Type} [DecidableEq α] : ∀ (l m : List α), l.Nodup → (∀ x ∈ l, x ∈ m) → l.length ≤ m.length
  | [], _, _, _ => Nat.zero_le _
  | x :: r, m, h, s => by
    obtain ⟨h1, h2⟩ := List.nodup_cons.mp h
    have hm := s x List.mem_cons_self
    have ne : ∀ y ∈ r, y ≠ x := fun y hy e => by rw [e] at hy; exact h1 hy
    have k := fits_in r (m.erase x) h2 fun y hy => (List.mem_erase_of_ne (ne y hy)).mpr (s y (List.mem_cons_of_mem _ hy))
    rw [List.length_erase_of_mem hm] at k
    have : 0 < m.length := List.length_pos_of_mem hm
    show r.length + 1 ≤ _
    omega
theorem count_unlike {α : Type} [DecidableEq α] {l m : List α} (h : l.Nodup) (same : ∀ x, x ∈ l ↔ x ∈ m) : l.length ≤ m.length ∧ (l.length = m.length ↔ m.Nodup) := by
  refine ⟨fits_in l m h fun x => (same x).mp, fun e => ?_, fun hm => ?_⟩
  · refine Decidable.byContradiction fun twice => ?_
    obtain ⟨k, k1, k2⟩ := fewer_of_twice m twice
    have := fits_in l k h fun x hx => k2 x ((same x).mp hx)
    omega
  · exact Nat.le_antisymm (fits_in l m h fun x => (same x).mp) (fits_in m l hm fun x => (same x).mpr)
/-- len(set(x)), x a tuple of tuples of ints: how many unlike ones stand in it -/
def tLenSetT (K : PySem.W.Frag) (ta : TE) : TE := fun σ H Q => ta σ H fun x H1 => ∃ (t : Addr) (ks : List (Addr × List Int)), x = .ref t ∧ SqT K H1 t (ks.map fun p => .ref p.1) ∧ (∀ p ∈ ks, SqT K H1 p.1 (p.2.map V.int)) ∧ ks.length < 64 ∧
  ∀ n : Nat, n ≤ ks.length → (n = ks.length ↔ (ks.map (·.2)).Nodup) → Q (.int n) H1
theorem pe_lenSetT {X : Cx} {a : Expr} {ta : TE} {p p2 q pos : Pos} (hc : X.calm = true) (hu : X.A.units + 64 < cLine) (hg : Gl X "len") (hm : X.mg "len" = none) (hg2 : Gl X "set") (hm2 : X.mg "set" = none) (ha : PE X a ta)
    (na : starEach [a] X.env = (false, eval a X.env) :: starEach [] X.env := by rfl) : PE X (.Call (.Name "len" p) [.Call (.Name "set" p2) [a] [] q] [] pos) (tLenSetT X.K ta) where
  run pins s σ H Q I h := by
    refine Call_ (ld_blt I hg hm PySem.boot_len (callWith_builtin1 (args_cons (Call_ (ld_blt I hg2 hm2 boot_set (callWith_type1 (args_cons (thn (ha.run pins s σ H _ I h) fun v s1 ⟨x, H1, I1, rv, t, ks, one, sq, each, few, k⟩ => args_nil ?_) na) na rfl))) rfl) rfl rfl))
    subst one
    cases rv
    obtain ⟨its, vals, tup, _⟩ := I1.tuple sq
    refine set_of_tuple (P := X.prog) (w := X.w) ks (I1.ok.hd hc) tup (refs_of_vals vals) (fun p hp => I1.isT (each p hp)) few (by omega) fun h' tk L es ep tb R members kept => args_nil ?_
    obtain ⟨o, at0, exact_, dat⟩ := R.ob
    have n1 := count_unlike R.nd members
    rw [List.length_map, List.length_map] at n1
    have n2 : es.size = L.length := R.size (s := ⟨h', s1.gens, s1.drawn, tk, s1.os⟩)
    have J : Inv X pins σ H1 { s1 with heap := h', toks := tk } := I1.kept kept
    refine call_len_set at0 exact_ dat (R.fits (s := ⟨h', s1.gens, s1.drawn, tk, s1.os⟩)) (by rw [n2]; omega) ⟨.int L.length, H1, J.tok _, ⟨_, by rw [n2]⟩, k _ n1.1 n1.2⟩
end Xci

namespace Xci
open PySem PySem.Spec PyProof.Rows L2
/-- the numbers that families.py names -/
structure FamCst (mg : Str → Option Value) where
  t1 : Tok
  t2 : Tok
  MOST_MARKS : mg "MOST_MARKS" = some (.int 6 t1)
  MOST_CELLS : mg "MOST_CELLS" = some (.int 24 t2)
/-- the class of families -/
structure FamTxt (K : PySem.W.Frag) (mg : Str → Option Value) (C : Addr) : Prop where
  cl : Cls K C
  nM : NoAttr K C "many"
  nC : NoAttr K C "cells"
  mgC : mg "Family" = some (.ref C)
def famF (many : Int) (p : Addr) : List (Str × V) := [("many", .int many), ("cells", .ref p)]
theorem n_mc : ¬ (("many" : Str) = "cells") := by decide +kernel
theorem putMany (v : V) : putF "many" v [] = [(("many" : Str), v)] := rfl
theorem putCells (v u : V) : putF "cells" u [(("many" : Str), v)] = [(("many" : Str), v), (("cells" : Str), u)] := by
  show (if ("many" : Str) = "cells" then _ else (("many" : Str), v) :: putF "cells" u []) = _
  rw [if_neg n_mc] <;> rfl
theorem famF_many (many : Int) (p : Addr) : (famF many p).lookup ("many" : Str) = some (.int many) := by
  unfold famF
  rw [List.lookup_cons, show ((Str.ofString "many" : Str) == Str.ofString "many") = true from by decide +kernel]
theorem famF_cells (many : Int) (p : Addr) : (famF many p).lookup ("cells" : Str) = some (.ref p) := by
  unfold famF
  rw [List.lookup_cons, show ((Str.ofString "cells" : Str) == Str.ofString "many") = false from by decide +kernel]
  rfl
/-- at b a family of so many marks with the cells at p -/
def FamAt (C : Addr) (H : Hp) (b : Addr) (many : Int) (p : Addr) : Prop := ∃ dx, H b = some (.ins C dx (famF many p))
def spAreCells : Sp := fun vs H Q _ => ∃ (many : Int) (p : Addr) (ys : List V) (cells : List (List Int)), vs = [.int many, .ref p] ∧ H p = some (.tup ys) ∧ Mks H ys cells ∧ FamOk many cells ∧ Q (.bl true) H
def spFam (C : Addr) : Sp := fun vs H Q _ => ∃ (x dx : Addr) (many : Int) (p : Addr) (ys : List V) (cells : List (List Int)), vs = [.ref x, .int many, .ref p] ∧ H x = some (.ins C dx []) ∧ H p = some (.tup ys) ∧ Mks H ys cells ∧ FamOk many cells ∧
  ∀ H' : Hp, FamAt C H' x many p → (∀ b o, H b = some o → b ≠ x → H' b = some o) → Q .non H'
/-- cells, each with the address at which it stands -/
theorem Mks.placed {K : PySem.W.Frag} {H : Hp} : ∀ {ys : List V} {cells : List (List Int)}, Mks H ys cells → ∃ ks : List (Addr × List Int), ys = ks.map (fun p => .ref p.1) ∧ ks.map (·.2) = cells ∧ ∀ p ∈ ks, SqT K H p.1 (p.2.map V.int)
  | _, _, .nil => ⟨[], rfl, rfl, nofun⟩
  | _, _, .cons ⟨a, e, h⟩ t => by
    obtain ⟨ks, e1, e2, e3⟩ := Mks.placed (K := K) t
    refine ⟨(a, _) :: ks, by rw [List.map_cons, ← e1, e], by rw [List.map_cons, e2], fun p hp => ?_⟩
    rcases List.mem_cons.mp hp with z | z
    · rw [z]; exact sqT h
    · exact e3 p z
end Xci

namespace Xci
open PySem L2

section
variable {P : Program} {w : World} {K : PySem.W.Frag} {mg : Str → Option Value} {base : Heap}
abbrev sAreCells : Stmt := top 33
theorem scAreCells : FnScope ["many", "thing", "cell"] ["many", "thing"] (defScope sAreCells) := ⟨rfl, rfl, rfl, by decide +kernel, rfl, by decide +kernel, by decide +kernel⟩

theorem ok_areCells {f : Addr} {fd : FuncData} (F : Fun K "_are_cells" "_are_cells" sAreCells f fd) (T : Txt mg) (TS : mg "set" = none) (c : FamCst mg) (HC : Has P w K mg base "is_cell" ["many", "thing"] 3 spIsCell) : FnOk P w K mg base CX0 4 f fd ["many", "thing"] spAreCells := by
  refine F.ok scAreCells (fun vs H Q E h => ?_) (fun cdv A outer s H vs Q E hr h => ?_)
  · obtain ⟨many, p, ys, cells, rfl, _⟩ := h
    rfl
  · obtain ⟨many, p, ys, cells, rfl, hp, each, ok, k⟩ := h
    refine ⟨_, (pss_cons (ps_if (PW.pt (pw_or (pt_not (pt_val (pe_callB call_isi rfl T.isinstance (by decide +kernel) (pa_cons (pv 1) (pa_cons (pe_bltn rfl T.tuple (by decide +kernel) (v := V.ty "tuple") rfl) pa_nil))))) (pw_or1 (pt_not (pt_chain op_le op_le pe_int (pe_callB call_len rfl T.len PySem.boot_len (pa_cons (pv 1) pa_nil)) (pe_gint rfl c.MOST_CELLS)))))) (pss_one (ps_ret pe_bl)) pss_nil)
      (pss_cons (ps_for PassesOwn.never rfl (pi_tup (pv 1)) (pg_name (i := 2) scAreCells.nd rfl (by first | exact Or.inl rfl | exact Or.inr rfl)) (pss_one (ps_if (pt_not (pt_val (pe_callH HC (hr.mono (by decide)) rfl (pa_cons (pv 0) (pa_cons (pv 2) pa_nil))))) (pss_one (ps_ret pe_bl)) pss_nil)))
      (pss_one (ps_ret (pe_cmpR op_eq (pe_lenSetT rfl (hu64 hr) rfl T.len rfl TS (pv 1)) (pe_callB call_len rfl T.len PySem.boot_len (pa_cons (pv 1) pa_nil)) (nomark _)))))), ?_⟩
    have len := Paired.length each
    have pos : 0 < cells.length := List.length_pos_iff.mpr ok.ne
    have few := ok.len
    refine ⟨_, rfl, _, _, _, _, true, rfl, .ty _, .base (.tup hp), kit_ty (by decide +kernel), _, rfl, ?_⟩
    refine iteF ?_
    refine ⟨_, rfl, _, ys.length, rfl, .inr ⟨_, sqT hp, rfl⟩, _, _, rfl, rfl, _, rfl, ?_⟩
    refine ite2 (fun _ => ?_) (fun no => absurd (decide_eq_true (show (1 : Int) ≤ ((ys.length : Nat) : Int) by omega)) no)
    refine ⟨_, _, rfl, rfl, _, rfl, ?_⟩
    refine ite2 (fun no => ?_) (fun _ => ?_)
    · have no' : (!decide (((ys.length : Nat) : Int) ≤ (24 : Int))) = true := no
      rw [decide_eq_true (show ((ys.length : Nat) : Int) ≤ (24 : Int) by omega)] at no'
      cases no'
    refine ⟨_, rfl, p, rfl, ⟨_, sqT hp⟩, for_tup (K := K) (a := p) (xs := ys) (fun i σ H2 => H2 = H ∧ ∃ v : Option V, σ = [some (.int many), some (.ref p), v]) ⟨rfl, none, rfl⟩ (fun i σ H2 _ ⟨e, _⟩ => by rw [e]; exact sqT hp) ?_ ?_⟩
    · rintro i y σ H2 hi ⟨rfl, v, rfl⟩
      obtain ⟨ms, at_, told⟩ := Paired.get each hi
      refine ⟨_, rfl, _, rfl, many, y, ms, rfl, told, ok.ok ms (List.mem_of_getElem? at_), _, rfl, ?_⟩
      exact iteF ⟨rfl, _, rfl⟩
    · rintro σ H2 ⟨rfl, v, rfl⟩
      obtain ⟨ks, e1, e2, e3⟩ := Mks.placed (K := K) each
      have same : ks.length = ys.length := by rw [e1, List.length_map]
      refine ⟨_, rfl, p, ks, rfl, (by rw [← e1]; exact sqT hp), e3, (by omega), fun n _ all => ?_⟩
      have full : n = ks.length := all.mpr (by rw [e2]; exact ok.nd)
      refine ⟨_, rfl, _, ys.length, rfl, .inr ⟨_, sqT hp, rfl⟩, ?_⟩
      rw [full, same]
      refine ⟨rfl, ?_⟩
      rw [decide_eq_true (show V.int ((ys.length : Nat) : Int) = V.int ((ys.length : Nat) : Int) from rfl)]
      exact k
abbrev sFamilyInit : Stmt := inClass (top 32) 0
theorem scFamilyInit : FnScope ["self", "many", "cells"] ["self", "many", "cells"] (defScope sFamilyInit) := ⟨rfl, rfl, rfl, by decide +kernel, rfl, by decide +kernel, by decide +kernel⟩

theorem ok_fam {f C : Addr} {fd : FuncData} (F : Fun K "__init__" "Family.__init__" sFamilyInit f fd) (T : Txt mg) (c : FamCst mg) (FT : FamTxt K mg C) (HB : Has P w K mg base "is_between" ["low", "high", "thing"] 2 spBetween) (HA : Has P w K mg base "_are_cells" ["many", "thing"] 4 spAreCells) :
    FnOk P w K mg base CX0 5 f fd ["self", "many", "cells"] (spFam C) := by
  refine F.ok scFamilyInit (fun vs H Q E h => ?_) (fun cdv A outer s H vs Q E hr h => ?_)
  · obtain ⟨x, dx, many, p, ys, cells, rfl, _⟩ := h
    rfl
  · obtain ⟨x, dx, many, p, ys, cells, rfl, hx, hp, each, ok, k⟩ := h
    refine ⟨_, (pss_cons (ps_if (pt_not (pt_val (pe_callH HB (hr.mono (by decide)) rfl (pa_cons pe_int (pa_cons (pe_gint rfl c.MOST_MARKS) (pa_cons (pv 1) pa_nil)))))) (pss_one ps_never) pss_nil)
      (pss_cons (ps_if (pt_not (pt_val (pe_callH HA (hr.mono (by decide)) rfl (pa_cons (pv 1) (pa_cons (pv 2) pa_nil))))) (pss_one ps_never) pss_nil)
      (pss_cons (ps_fld (pv 0) (pv 1) rfl)
      (pss_one (ps_fld (pv 0) (pv 2) rfl))))), ?_⟩
    refine ⟨_, rfl, _, _, _, rfl, _, rfl, ?_⟩
    rw [decide_eq_true (show (0 : Int) ≤ many ∧ many ≤ 6 from ⟨ok.lo, ok.hi⟩)]
    refine iteF ?_
    refine ⟨_, rfl, _, rfl, many, p, ys, cells, rfl, hp, each, ok, _, rfl, ?_⟩
    refine iteF ?_
    refine ⟨_, rfl, _, rfl, x, C, dx, [], rfl, hx, FT.cl, FT.nM, (by show 0 < 1000; decide), ?_⟩
    refine ⟨_, rfl, _, rfl, x, C, dx, _, rfl, upd_same, FT.cl, FT.nC, (by show 1 < 1000; decide), ?_⟩
    refine k _ ⟨dx, ?_⟩ fun b o e hb => ?_
    · rw [upd_same, putMany, putCells]
      rfl
    · rw [upd_ne hb, upd_ne hb]
      exact e
end
end Xci

namespace Xci
open PySem PySem.Spec PyProof.Rows L2
section
variable {κ : Type} [DecidableEq κ] {P : Program} {w : World} (kind : KeyKind P w κ)
/-- rows and table of a set whose members are told by S, n of them, any two rows unlike, and that can be walked -/
structure Laid (es : Array (Int × Value)) (t : SetTable) (S : κ → Bool) (n : Nat) : Prop where
  rows : ElemsOf kind es.toList
  told : ∀ k, S k = true ↔ ∃ e ∈ es.toList, kind.is k e.2 = true
  unlike : es.toList.Pairwise fun e f => ∀ k, kind.is k e.2 = true → kind.is k f.2 = false
  few : es.size < scanBound
  fits : t.fits es.size = true
  count : es.size = n
  rises : Ris t.place.toList
  ledger : w.params.followText "set-order" = true ∨ t.led = true
variable {kind}
theorem unlike_perm {l m : List (Int × Value)} (p : l.Perm m) (h : l.Pairwise fun e f => ∀ k, kind.is k e.2 = true → kind.is k f.2 = false) : m.Pairwise fun e f => ∀ k, kind.is k e.2 = true → kind.is k f.2 = false :=
  (p.pairwise_iff (fun {e f} q k hf => by
    cases z : kind.is k e.2 with
    | false => rfl
    | true => exact absurd hf (by rw [q k z]; exact Bool.false_ne_true))).mp h
/-- laid anew for another size -/
theorem Laid.again {es : Array (Int × Value)} {t : SetTable} {S : κ → Bool} {n : Nat} (L : Laid kind es t S n) (size : Nat) : Laid kind (relayAll t es size).1 (relayAll t es size).2.1 S n where
  rows := L.rows.perm (relayAll_perm t es size)
  told k := (L.told k).trans (by constructor <;> (rintro ⟨e, he, q⟩; exact ⟨e, by first | exact (relayAll_perm t es size).mem_iff.mpr he | exact (relayAll_perm t es size).mem_iff.mp he, q⟩))
  unlike := unlike_perm (relayAll_perm t es size).symm L.unlike
  few := by rw [← Array.length_toList, (relayAll_perm t es size).length_eq, Array.length_toList]; exact L.few
  fits := relayAll_fits t es size
  count := by rw [← Array.length_toList, (relayAll_perm t es size).length_eq, Array.length_toList]; exact L.count
  rises := relayAll_ris t es size
  ledger := L.ledger.imp id fun z => by rw [relayAll_led]; exact z
/-- one more row -/
theorem Laid.more {es : Array (Int × Value)} {t : SetTable} {S : κ → Bool} {n : Nat} {k : κ} {v : Value} (L : Laid kind es t S n) (is : kind.is k v = true) (scan : v.scannable = true) (no : S k = false) (room : n + 1 < scanBound) :
    Laid kind (layNew t es (kind.hash k) v).1 (layNew t es (kind.hash k) v).2.1 (fun j => S j || decide (j = k)) (n + 1) := by
  have p := layNew_perm t es (kind.hash k) v
  rw [Array.toList_push] at p
  have size : (layNew t es (kind.hash k) v).1.size = n + 1 := by
    rw [← Array.length_toList, p.length_eq, List.length_append, Array.length_toList, L.count] <;> rfl
  exact {
    rows := (L.rows.push is scan).perm p
    told := mem_push_iff is L.told p
    unlike := unlike_perm p.symm (List.pairwise_append.mpr ⟨L.unlike, List.pairwise_singleton .., fun e he f hf j hj => by
      rw [List.mem_singleton.mp hf]
      cases z : kind.is j v with
      | false => rfl
      | true =>
        have ek := kind.inj v j k z is
        rw [ek] at hj
        exact absurd ((L.told k).mpr ⟨e, he, hj⟩) (by rw [no]; exact Bool.false_ne_true)⟩)
    few := by rw [size]; exact room
    fits := layNew_fits t es (kind.hash k) v
    count := size
    rises := layNew_ris t es (kind.hash k) v L.rises
    ledger := L.ledger.imp id fun z => by rw [layNew_led]; exact z }
/-- the table may lose its plainness -/
theorem Laid.blunt {es : Array (Int × Value)} {t : SetTable} {S : κ → Bool} {n : Nat} (L : Laid kind es t S n) : Laid kind es { t with plain := false } S n :=
  ⟨L.rows, L.told, L.unlike, L.few, SetTable.fits_plain_off L.fits, L.count, L.rises, L.ledger⟩
variable (kind) in
/-- the set at a -/
def SetL (h : Heap) (a : Addr) (S : κ → Bool) (n : Nat) : Prop := ∃ o es ep t, h.get? a = some o ∧ o.ExactSet ∧ o.data = .set es ep t ∧ Laid kind es t S n
variable {A : Around} {E : Value → Shared → Prop} {s : Shared} {a : Addr} {S : κ → Bool} {n : Nat}
theorem SetL.keep {h h' : Heap} (R : SetL kind h a S n) (k : ∀ o, h.get? a = some o → h'.get? a = some o) : SetL kind h' a S n := by
  obtain ⟨o, es, ep, t, at0, r⟩ := R
  exact ⟨o, es, ep, t, k o at0, r⟩
/-- the rows written down, and the table made anew where it is full -/
theorem written {g : Bool → Sem Unit} (quiet : ∀ (b : Bool) (s1 : Shared) (R' : Unit → Shared → Prop), R' () s1 → wpAny (model P w) A (g b) R' E s1) {o : Obj} {es es' : Array (Int × Value)} {ep : Nat} {t t' : SetTable}
    (at0 : s.heap.get? a = some o) (exact_ : o.ExactSet) (dat : o.data = .set es ep t) (L : Laid kind es' t' S n) {dummy : Bool} {R : Option Bool → Shared → Prop}
    (end_ : ∀ h', Heap.SameBut a s.heap h' → SetL kind h' a S n → R (some true) { s with heap := h' }) :
    wpAny (model P w) A (do
        storeSet a es' t'
        if (!dummy && t'.tooFull) = true then do
            g (relayAll t' es' (SetTable.grown es'.size)).2.2
            storeSet a (relayAll t' es' (SetTable.grown es'.size)).1 (relayAll t' es' (SetTable.grown es'.size)).2.1
            pure (some true)
          else pure (some true)) R E s := by
  have at1 := store_at (es' := es') (t' := t') at0 dat
  have only := Heap.SameBut.update s.heap a (Obj.putSet es' t')
  have M := L.again (SetTable.grown es'.size)
  refine wpAny_bind (wpAny_storeSet_of at0 dat ?_ (fits_of_scanBound L.few))
  split
  · exact wpAny_bind (quiet _ _ _ (wpAny_bind (wpAny_storeSet_of at1 rfl (wpAny_pure (end_ _ (only.trans (Heap.SameBut.update _ a _)) ⟨_, _, _, _, store_at at1 rfl, exact_, rfl, M⟩)) (fits_of_scanBound M.few))))
  · exact wpAny_pure (end_ _ only ⟨_, _, _, _, at1, exact_, rfl, L⟩)
theorem SetL.add {k : κ} {v : Value} (is : kind.is k v = true) (scan : v.scannable = true) {Q : Bool → Shared → Prop} (R : SetL kind s.heap a S n) (room : n + 1 < scanBound)
    (q : ∀ h', Heap.SameBut a s.heap h' → SetL kind h' a (fun j => S j || decide (j = k)) (if S k = true then n else n + 1) → Q (!S k) { s with heap := h' }) :
    wpAny (model P w) A (setAddHashed a v (kind.hash k)) Q E s := by
  obtain ⟨o, es, ep, t, at0, exact_, dat, L⟩ := R
  have silent : ∀ (b : Bool) (s1 : Shared) (R' : Unit → Shared → Prop), R' () s1 → wpAny (model P w) A (match b with | true => rule "set.scan.the-table-gave-way" | false => pure ()) R' E s1 := fun b s1 R' z => by
    cases b
    · exact wpAny_pure z
    · exact wpAny_rule z
  unfold setAddHashed setAddHashedIn
  refine wpAny_holding (wpAny_bind (wpAny_setState_of at0 dat L.fits ?_))
  dsimp only
  rw [byScan_of scan L.few L.rows, if_pos rfl]
  unfold setAddByScan
  refine wpAny_bind (wpAny_bind (wpAny_rule (wpAny_bind (wpAny_setScan_of is at0 dat L.fits L.rows ?_))))
  cases met : List.findIdx? (fun e => kind.is k e.2) es.toList with
  | some j =>
    dsimp only
    obtain ⟨hj, pj, _⟩ := List.findIdx?_eq_some_iff_getElem.mp met
    have old : S k = true := (L.told k).mpr ⟨_, List.getElem_mem hj, pj⟩
    have same : (fun j => S j || decide (j = k)) = S := funext fun j => by
      by_cases e : j = k
      · rw [e, old] <;> rfl
      · rw [decide_eq_false e, Bool.or_false]
    have z := q s.heap (Heap.SameBut.refl a s.heap)
    rw [same, if_pos old, old] at z
    exact wpAny_pure (wpAny_pure (z ⟨o, es, ep, t, at0, exact_, dat, L⟩))
  | none =>
    dsimp only
    have no : S k = false := by
      cases z : S k with
      | false => rfl
      | true =>
        obtain ⟨e, he, p⟩ := (L.told k).mp z
        have c := List.findIdx?_eq_none_iff.mp met e he
        rw [p] at c
        cases c
    have M := L.more is scan no room
    rw [if_neg (by rw [no]; exact Bool.false_ne_true), no] at q
    generalize layNew t es (kind.hash k) v = lot at M ⊢
    obtain ⟨es1, t1, dummy, gave⟩ := lot
    dsimp only at M ⊢
    refine wpAny_bind (silent _ _ _ ?_)
    split
    · refine wpAny_bind ?_
      rw [hashByValue_scannable 8 scan]
      refine wpAny_pure ?_
      refine written (fun b s1 R' z => silent b s1 R' z) at0 exact_ dat (n := n + 1) (S := fun j => S j || decide (j = k)) ?_ fun h' only R => wpAny_pure (q h' only R)
      split
      · exact M
      · exact M.blunt
    · refine wpAny_bind (wpAny_pure ?_)
      rw [if_pos rfl]
      exact written (fun b s1 R' z => silent b s1 R' z) at0 exact_ dat M fun h' only R => wpAny_pure (q h' only R)
/-- set.add of one more -/
theorem SetL.call_add {k : κ} {v : Value} (is : kind.is k v = true) (scan : v.scannable = true) {Q : Value → Shared → Prop} (R : SetL kind s.heap a S n) (room : n + 1 < scanBound)
    (q : ∀ h', Heap.SameBut a s.heap h' → SetL kind h' a (fun j => S j || decide (j = k)) (if S k = true then n else n + 1) → Q .none { s with heap := h', toks := s.toks + 1 }) :
    wpAny (model P w) A (call (.builtin "set.add") [.ref a, v]) Q E s := by
  obtain ⟨o, _, _, _, at0, exact_, _, _⟩ := id R
  refine wpAny_call_entry F.slot_set_add ⟨o, at0, exact_.1⟩ F.entry_set_add ?_ (F.args_set_add_2 _ _)
  unfold Builtin.«set.add» Builtin.Frozenset.oneOther
  simp only [List.isEmpty_nil, bind_assoc]
  unfold Builtin.Frozenset.addrOf setAdd
  refine wpAny_bind (wpAny_pure (wpAny_bind (wpAny_pure (wpAny_bind (wpAny_holding (wpAny_bind (kind.pyHash is ?_)))))))
  exact SetL.add (s := { s with toks := s.toks + 1 }) is scan R room fun h' only M => wpAny_pure ⟨_, rfl, q h' only M⟩
/-- a set as it is made -/
theorem SetL.none {h : Heap} : SetL kind (h.push { cls := .type "set", dict := none, data := .set #[] 0 (.fresh 0 0 (!w.params.followText "set-order")) }) h.objs.size (fun _ => false) 0 := by
  refine ⟨_, _, _, _, Heap.get?_push_size _ rfl, ⟨rfl, rfl, rfl⟩, rfl, nofun, fun k => ⟨nofun, nofun⟩, List.Pairwise.nil, by decide, rfl, rfl, List.Pairwise.nil, ?_⟩
  cases z : w.params.followText "set-order"
  · exact .inr rfl
  · exact .inl rfl
end
section
variable {P : Program} {w : World} {A : Around} {E : Value → Shared → Prop} {s : Shared} {a : Addr} {S : Str → Bool} {n : Nat}
theorem texts_of : ∀ (us : List Value), (∀ u ∈ us, ∃ x t, u = Value.str x t) → ∃ xs, StrsAre us xs
  | [], _ => ⟨[], .nil⟩
  | u :: us, h => by
    obtain ⟨x, t, rfl⟩ := h u List.mem_cons_self
    obtain ⟨xs, r⟩ := texts_of us fun v hv => h v (List.mem_cons_of_mem _ hv)
    exact ⟨x :: xs, .cons x t r⟩
theorem strsAre_mem : ∀ {us : List Value} {xs : List Str}, StrsAre us xs → ∀ x, x ∈ xs ↔ ∃ t, Value.str x t ∈ us
  | _, _, .nil, x => by simp
  | _, _, .cons y t r, x => by
    have ih := strsAre_mem r x
    constructor
    · intro h
      rcases List.mem_cons.mp h with e | h
      · exact ⟨t, by rw [e]; exact List.mem_cons_self⟩
      · obtain ⟨t', h⟩ := ih.mp h
        exact ⟨t', List.mem_cons_of_mem _ h⟩
    · rintro ⟨t', h⟩
      rcases List.mem_cons.mp h with e | h
      · cases e
        exact List.mem_cons_self
      · exact List.mem_cons_of_mem _ (ih.mpr ⟨t', h⟩)
/-- sorted(a set of texts): its members, rising -/
theorem sorted_texts {Q : Value → Shared → Prop} (R : SetL (PySem.strKind P w) s.heap a S n) (hh : A.handled = none) (small : n < 64)
    (q : ∀ s' p (out : Array Value) (c : Nat) (xs : List Str), (∀ b o, s.heap.get? b = some o → s'.heap.get? b = some o) → s'.gens = s.gens → s'.os = s.os → s.heap.objs.size ≤ p →
      s'.heap.get? p = some (seqObj "list" out c) → StrsAre out.toList xs → sortedS xs = true → (∀ x, x ∈ xs ↔ S x = true) → xs.length = n → Q (.ref p) s') :
    wpAny (model P w) A (call (.builtin "sorted") [.ref a]) Q E s := by
  obtain ⟨o, es, ep, t, at0, exact_, dat, L⟩ := R
  refine Calls.call_function_entry kind_sorted plain_sorted entry_sorted (args_sorted1 _) ?_
  unfold Builtin.«sorted»
  refine wpAny_bind (m := checkCount "sorted" 1 1 _) (wpAny_pure (wpAny_bind (collect_set (A := A.in1) hh ⟨o, at0, exact_.1, dat⟩ L.fits L.few L.rises L.ledger fun s1 vs k1 z1 g1 o1 pm => ?_)))
  have len : vs.length = n := by rw [pm.length_eq, List.length_map, Array.length_toList, L.count]
  obtain ⟨xs, texts⟩ := texts_of vs fun v hv => by
    obtain ⟨e, he, rfl⟩ := List.mem_map.mp (pm.mem_iff.mp hv)
    obtain ⟨⟨k, is, _⟩, _⟩ := L.rows e he
    obtain ⟨tk, ev⟩ := Value.isStrOf_shape is
    exact ⟨k, tk, ev⟩
  have members : ∀ x, x ∈ xs ↔ S x = true := fun x => by
    rw [strsAre_mem texts x, L.told x]
    constructor
    · rintro ⟨tk, h⟩
      obtain ⟨e, he, ev⟩ := List.mem_map.mp (pm.mem_iff.mp h)
      exact ⟨e, he, by rw [ev]; exact PySem.strKind_is P w x tk⟩
    · rintro ⟨e, he, is⟩
      obtain ⟨tk, ev⟩ := Value.isStrOf_shape is
      exact ⟨tk, pm.mem_iff.mpr (List.mem_map.mpr ⟨e, he, ev⟩)⟩
  refine wpAny_bind (wpAny_newList ?_ (by rw [len, sizeLine_eq]; omega))
  have made : (s1.heap.push (seqObj "list" vs.toArray 0)).get? s1.heap.objs.size = some (seqObj "list" vs.toArray 0) := Heap.get?_push_size _ rfl
  refine wpAny_bind (wpAny_holding (wpAny_call_entry slot_list_sort ⟨_, made, rfl⟩ entry_list_sort (list_sort_treeKAny PyProof.Rows.strKind_oneLt made texts.keysOf (fun v1 v2 rest e => keyKind_strs (by rw [← e]; exact texts)) (by rw [len, sizeLine_eq]; omega) fun st p r => ?_) (args_list_sort _)))
  obtain ⟨ys, h1, h2, h3⟩ := sorted_out_str texts p r
  obtain ⟨c, at1⟩ := sortedHeap_at (vs := vs) (out := (arrOf st).map (·.2)) made
  refine ⟨_, rfl, wpAny_pure ⟨_, rfl, q _ s1.heap.objs.size _ c ys (fun b u e => ?_) g1 o1 z1 at1 h1 h3 (fun x => (h2.mem_iff).trans (members x)) ?_⟩⟩
  · have z := k1 b u e
    have lt := Heap.lt_size z
    show (sortedHeap (s1.heap.push (seqObj "list" vs.toArray 0)) s1.heap.objs.size vs ((arrOf st).map (·.2))).get? b = some u
    rw [sortedHeap_old (Nat.ne_of_lt lt) (by rw [size_push']; exact Nat.lt_succ_of_lt lt)]
    exact Heap.get?_push_of_some _ z
  · rw [h2.length_eq, ← texts.len_eq, len]
end
end Xci

namespace Xci
open PySem PySem.Spec PyProof.Rows L2
/-- the set of texts at a, as a tracked thing -/
def TextsO (P : Program) (w : World) (a : Addr) (S : Str → Bool) (n : Nat) : HO := .ext fun h => SetL (PySem.strKind P w) h a S n
theorem texts_new {P : Program} {w : World} {H : Hp} {h : Heap} {a : Addr} {S : Str → Bool} {n : Nat} (R : SetL (PySem.strKind P w) h a S n) : ObjOk P w H h a (TextsO P w a S n) :=
  ⟨R, R.elim fun o z => z.elim fun _ z => z.elim fun _ z => z.elim fun _ z => ⟨o, z.1⟩, fun _ _ p k => SetL.keep p k⟩
section
variable {X : Cx}
theorem texts_get {pins : List (Addr × Obj)} {σ : L2.St} {H : Hp} {s : Shared} {a : Addr} {S : Str → Bool} {n : Nat} (I : Inv X pins σ H s) (e : H a = some (TextsO X.prog X.w a S n)) : SetL (PySem.strKind X.prog X.w) s.heap a S n := (I.hok a _ e).1
/-- one more text -/
theorem texts_add {pins : List (Addr × Obj)} {σ : L2.St} {H : Hp} {s : Shared} {E : Value → Shared → Prop} {D : Addr} {S : Str → Bool} {n : Nat} {x : Str} {t : Tok} {Q : Value → Shared → Prop} (I : Inv X pins σ H s) (e : H D = some (TextsO X.prog X.w D S n)) (room : n + 1 < scanBound)
    (q : ∀ s', Inv X pins σ (upd H D (TextsO X.prog X.w D (fun j => S j || decide (j = x)) (if S x = true then n else n + 1))) s' → Q .none s') : wpAny (model X.prog X.w) X.A (call (.builtin "set.add") [.ref D, .str x t]) Q E s :=
  SetL.call_add (PySem.strKind_is _ _ x t) rfl (texts_get I e) room fun h' only R => q _ (I.write (e := D) (t' := s.toks + 1) (by rw [e]; trivial) (.inl rfl) (fun b u hb hu => (only.2 b hb).trans hu)
    (R.elim fun o z => z.elim fun _ z => z.elim fun _ z => z.elim fun _ z => ⟨o, z.1⟩) (texts_new R))
/-- sorted(a set of texts) -/
def rSortedTexts (P : Program) (w : World) : List V → Hp → VK → Prop := fun vs H Q => ∃ (a : Addr) (S : Str → Bool) (n : Nat), vs = [V.ref a] ∧ H a = some (TextsO P w a S n) ∧ n < 64 ∧
  ∀ (xs : List Str) (p : Addr), sortedS xs = true → (∀ x, x ∈ xs ↔ S x = true) → xs.length = n → H p = none → Q (.ref p) (upd H p (.lst (xs.map V.str)))
theorem vals_texts : ∀ {us : List Value} {xs : List Str}, StrsAre us xs → Vals (xs.map V.str) us
  | _, _, .nil => .nil
  | _, _, .cons x t r => .cons ⟨t, rfl⟩ (vals_texts r)
theorem cr_sortedTexts (calm : X.calm = true) : CallR X (.builtin "sorted") (rSortedTexts X.prog X.w) := by
  intro pins s σ H vs us Q I rv told
  obtain ⟨a, S, n, rfl, at0, small, q⟩ := told
  rw [Vals.ref1 rv]
  refine sorted_texts (texts_get I at0) (I.ok.hd calm) small fun s' p out c xs kept gens os fresh at1 texts up members len => ?_
  have free : H p = none := I.hok.fresh fresh
  have short : (xs.map V.str).length ≤ sizeLine := by rw [List.length_map, len, sizeLine_eq]; omega
  have J : Inv X pins σ (upd H p (.lst (xs.map V.str))) s' := I.call' (ch := []) os (Un.laid kept fresh free) (I.hok.laid kept fresh ⟨short, out.toList, c, vals_texts texts, at1⟩) (by rw [gens]; exact I.bare) (fun _ z => nomatch z)
  exact ⟨.ref p, _, J, rfl, q xs p up members len free⟩
end
end Xci

namespace Xci
open PySem PySem.Spec PyProof.Rows L2
/-- the parts of a comprehension, read in its own block -/
structure InBlock (X : Cx) (scope : Scope) (tg : Expr) (ifs : List Expr) (elt : Expr) (g : TG) (tt : TT) (te : TE) : Prop where
  target : ∀ (s : Shared) (H : Hp) (C : Addr) (cl : List (PySem.Str × Addr)) (fp : List Addr), PG (X.blk s H scope (compEnvC scope cl C X.env) fp) tg g
  tests : ∀ (s : Shared) (H : Hp) (C : Addr) (cl : List (PySem.Str × Addr)) (fp : List Addr), PTs (X.blk s H scope (compEnvC scope cl C X.env) fp) ifs tt
  item : ∀ (s : Shared) (H : Hp) (C : Addr) (cl : List (PySem.Str × Addr)) (fp : List Addr), PE (X.blk s H scope (compEnvC scope cl C X.env) fp) elt te
/-- {text for .. in .. if ..} in N turns: D the new set -/
def tTexts (P : Program) (w : World) (wi : TI) (g : TG) (tt : TT) (te : TE) (own : List Nat) : TE := fun σ H Q => wi σ H fun J H1 => ∀ D, H1 D = none → ∃ (N : Nat) (W : Nat → Hp → Prop), W 0 (upd H1 D (TextsO P w D (fun _ => false) 0)) ∧
  (∀ H, W N H → J.stop N H ∧ Q (.ref D) H) ∧ ∀ i H, i < N → W i H → J.go i H ∧ ∀ x H', J.yld i H x H' → g x (wipe σ own) H' fun σ2 H2 => wipe σ2 own = wipe σ own ∧ tt σ2 H2 fun b H3 =>
    if b = true then te σ2 H3 fun y H4 => ∃ (c : Str) (S : Str → Bool) (n : Nat), y = .str c ∧ H4 D = some (TextsO P w D S n) ∧ n + 1 < scanBound ∧ W (i + 1) (upd H4 D (TextsO P w D (fun j => S j || decide (j = c)) (if S c = true then n else n + 1))) else W (i + 1) H3
section
variable {X : Cx} {pins : List (Addr × Obj)} {σ : L2.St} {s : Shared} {H : Hp} {elt tg iter : Expr} {ifs : List Expr} {scope : Scope} {own : List (PySem.Str × Nat)} {pos : Pos} {g : TG} {tt : TT} {te : TE} {J : It} {it D : Addr} {fp : List Addr} {tn : Nat → Heap → Prop} {N : Nat} {W : Nat → Hp → Prop} {R : Result → Shared → Prop}
/-- what holds ahead of turn i, in the block -/
def Ahead (Y : Cx) (ρ : L2.St) (tn : Nat → Heap → Prop) (fp : List Addr) (W : Nat → Hp → Prop) (i : Nat) (s : Shared) : Prop := ∃ H, Inv Y [] ρ H s ∧ tn i s.heap ∧ (∀ b ∈ fp, H b = none) ∧ W i H
set_option maxHeartbeats 1000000 in
theorem texts_turn {C : Addr} {cl : List (PySem.Str × Addr)} (calm : X.calm = true) (B : InBlock X scope tg ifs elt g tt te) (T : Turn X.prog X.w X.K tg J fp it tn)
    (step : ∀ i H, i < N → W i H → J.go i H ∧ ∀ x H', J.yld i H x H' → g x (wipe σ (own.map (·.2))) H' fun σ2 H2 => wipe σ2 (own.map (·.2)) = wipe σ (own.map (·.2)) ∧ tt σ2 H2 fun b H3 =>
      if b = true then te σ2 H3 fun y H4 => ∃ (c : Str) (S : Str → Bool) (n : Nat), y = .str c ∧ H4 D = some (TextsO X.prog X.w D S n) ∧ n + 1 < scanBound ∧ W (i + 1) (upd H4 D (TextsO X.prog X.w D (fun j => S j || decide (j = c)) (if S c = true then n else n + 1))) else W (i + 1) H3)
    {i : Nat} (hi : i < N) {s1 : Shared} (ahead : Ahead (X.blk s H scope (compEnvC scope cl C X.env) fp) (wipe σ (own.map (·.2))) tn fp W i s1) {E : Value → Shared → Prop} {Z : Shared → Prop} (next : ∀ s', Ahead (X.blk s H scope (compEnvC scope cl C X.env) fp) (wipe σ (own.map (·.2))) tn fp W (i + 1) s' → Z s') :
    wpAny (model X.prog X.w) X.A (pyNext (.ref it)) (fun r s1 => ∃ u, r = some u ∧ wpAny (model X.prog X.w) X.A (letOwnedTupleGo tg (.ref it) u) (fun _ s1' => wpAny (model X.prog X.w) X.A (assign tg (compEnvC scope cl C X.env) u) (fun _ s2 =>
      wpAny (model X.prog X.w) X.A (forIn ifs true fun c r => if r = true then do let ok ← isTrue c (compEnvC scope cl C X.env) (eval c (compEnvC scope cl C X.env)); pure (ForInStep.yield ok) else pure (ForInStep.yield r)) (fun ok s3 =>
        if ok = true then wpAny (model X.prog X.w) X.A (eval elt (compEnvC scope cl C X.env)) (fun x s4 => wpAny (model X.prog X.w) X.A (call (.builtin "set.add") [.ref D, x]) (fun _ s5 => Z s5) E s4) E s3
        else Z s3) E s2) E s1') E s1) E s1 := by
  obtain ⟨H1, I1, st, free, w1⟩ := ahead
  obtain ⟨go, yields⟩ := step i H1 hi w1
  have clear : ∀ {ρ : L2.St} {H' : Hp} {s' : Shared}, Inv (X.blk s H scope (compEnvC scope cl C X.env) fp) [] ρ H' s' → (∀ b ∈ fp, H' b = none) → ∀ b ∈ fp, FpOk (X.blk s H scope (compEnvC scope cl C X.env) fp) [] H' b := fun I' n b hb =>
    have away := I'.ok.exf b hb
    ⟨n b hb, away.1, I'.ok.exfs b hb, .inl hb, fun x c e => away.2 x c e, fun p hp => nomatch (show p ∈ ([] : List (Addr × Obj)) from hp)⟩
  refine thnF (T.item (X.blk s H scope (compEnvC scope cl C X.env) fp) rfl rfl rfl calm i [] s1 _ H1 (fun _ _ => False) I1 (clear I1 free) st go) fun r s2 ⟨u, er, stored⟩ => ⟨u, er, thnF stored fun _ s3 ⟨x, H3, I3, rx, told, st3, free3⟩ => ?_⟩
  refine thnF ((B.target s H C cl fp).run _ s3 _ H3 x u _ (I3.pinned (clear I3 free3) (T.obj _ _ st3)) rx (yields x H3 told)) fun _ s4 ⟨σ4, H4, I4, same, q4⟩ => thnF ((B.tests s H C cl fp).run _ s4 σ4 H4 _ I4 q4) fun b s5 ⟨H5, I5, q5⟩ => ?_
  have close : ∀ {s' : Shared} {H' : Hp}, Inv (X.blk s H scope (compEnvC scope cl C X.env) fp) ([] ++ pinsAt fp s3.heap) σ4 H' s' → W (i + 1) H' → Ahead (X.blk s H scope (compEnvC scope cl C X.env) fp) (wipe σ (own.map (·.2))) tn fp W (i + 1) s' := fun {s' H'} I' w' => by
    have still : ∀ b ∈ fp, ∀ o, s3.heap.get? b = some o → s'.heap.get? b = some o ∧ H' b = none := fun b hb o e => by
      have z := I'.pin (b, o) (List.mem_append_right _ (List.mem_append_right _ (mem_pinsAt hb e)))
      exact ⟨z.1, z.2.1⟩
    refine ⟨H', I'.unpinned.weak (by rw [← same, wipe_length]) fun j v e => (wipe_some (same ▸ e)).1, T.keep _ _ _ st3 fun b hb o e => (still b hb o e).1, fun b hb => ?_, w'⟩
    obtain ⟨o, e, _⟩ := T.obj _ _ st3 b hb
    exact (still b hb o e).2
  cases b with
  | false => exact next _ (close I5 q5)
  | true =>
    refine thnF ((B.item s H C cl fp).run _ s5 σ4 H5 _ I5 q5) fun z s6 ⟨y, H6, I6, rz, c, S, n, ey, at6, room, w6⟩ => ?_
    subst ey
    obtain ⟨tk, rfl⟩ : ∃ tk, z = Value.str c tk := rz
    exact texts_add (X := X.blk s H scope (compEnvC scope cl C X.env) fp) I6 at6 room fun s7 I7 => next _ (close I7 w6)
end
section
variable {X : Cx} {pins : List (Addr × Obj)} {σ : L2.St} {s : Shared} {H : Hp} {Q : VK} {elt tg iter : Expr} {ifs : List Expr} {scope : Scope} {own : List (PySem.Str × Nat)} {pos : Pos} {g : TG} {tt : TT} {te : TE} {J : It} {it D : Addr} {fp : List Addr} {tn : Nat → Heap → Prop} {N : Nat} {W : Nat → Hp → Prop}
set_option maxHeartbeats 1000000 in
/-- all turns, from the new block on -/
theorem texts_run (calm : X.calm = true) (nd : X.N.Nodup) (I : Inv X pins σ H s) (ok : BlkOk X.N X.env.scope scope own) (B : InBlock X scope tg ifs elt g tt te) (T : Turn X.prog X.w X.K tg J fp it tn)
    (free : ∀ b ∈ fp, FpOk X pins H b ∧ b < s.heap.objs.size) (st : tn 0 s.heap) (w0 : W 0 H) (ends : ∀ H, W N H → J.stop N H ∧ Q (.ref D) H)
    (step : ∀ i H, i < N → W i H → J.go i H ∧ ∀ x H', J.yld i H x H' → g x (wipe σ (own.map (·.2))) H' fun σ2 H2 => wipe σ2 (own.map (·.2)) = wipe σ (own.map (·.2)) ∧ tt σ2 H2 fun b H3 =>
      if b = true then te σ2 H3 fun y H4 => ∃ (c : Str) (S : Str → Bool) (n : Nat), y = .str c ∧ H4 D = some (TextsO X.prog X.w D S n) ∧ n + 1 < scanBound ∧ W (i + 1) (upd H4 D (TextsO X.prog X.w D (fun j => S j || decide (j = c)) (if S c = true then n else n + 1))) else W (i + 1) H3) :
    codeAny (model X.prog X.w) X.A (.compStart (.SetComp elt [⟨tg, iter, ifs, 0⟩] scope pos) 0 (.ref it) (.ref D) (compEnvC scope (cellsFrom (s.heap.objs.size + 1) scope.names (cloFrom X.env.cells scope.names [])) s.heap.objs.size X.env))
      (compPost (model X.prog X.w) X.A X.xe none (EP X pins σ Q) (.ref D) s.heap.objs.size) { s with heap := pushCells (s.heap.push { cls := .type "dict", data := .dict #[] }) scope.names } := by
  have I1 := block_start I ok nd free
  have kept : ∀ b o, s.heap.get? b = some o → (pushCells (s.heap.push { cls := .type "dict", data := .dict #[] }) scope.names).get? b = some o := fun b o e => pushCells_keeps _ _ _ _ (Heap.get?_push_of_some _ e)
  have st1 : tn 0 (pushCells (s.heap.push { cls := .type "dict", data := .dict #[] }) scope.names) := T.keep _ _ _ st fun b _ o e => kept b o e
  have loop : codeAny (model X.prog X.w) X.A (.compLoop (.SetComp elt [⟨tg, iter, ifs, 0⟩] scope pos) 0 (.ref it) (.ref D) (compEnvC scope (cellsFrom (s.heap.objs.size + 1) scope.names (cloFrom X.env.cells scope.names [])) s.heap.objs.size X.env))
      (compPost (model X.prog X.w) X.A X.xe none (EP X pins σ Q) (.ref D) s.heap.objs.size) { s with heap := pushCells (s.heap.push { cls := .type "dict", data := .dict #[] }) scope.names } := by
    refine PpSet.compLoopS_any (fun m s' => ∃ i, i + m = N ∧ Ahead (X.blk s H scope (compEnvC scope (cellsFrom (s.heap.objs.size + 1) scope.names (cloFrom X.env.cells scope.names [])) s.heap.objs.size X.env) fp) (wipe σ (own.map (·.2))) tn fp W i s') ?_ N ⟨0, Nat.zero_add N, H, I1, st1, fun b hb => (free b hb).1.1, w0⟩
    rintro m s5 ⟨i, im, ahead⟩
    by_cases more : i < N
    · refine thn (texts_turn calm B T step more ahead (Z := fun s' => ∃ m', m' < m ∧ ∃ i, i + m' = N ∧ Ahead _ _ tn fp W i s') fun s' a => ⟨m - 1, by omega, i + 1, by omega, a⟩) fun r s6 h => ?_
      obtain ⟨u, rfl, rest⟩ := h
      exact rest
    · obtain rfl : i = N := by omega
      obtain ⟨H5, I5, st5, free5, w5⟩ := ahead
      obtain ⟨stop, q⟩ := ends H5 w5
      refine thnF (T.done (X.blk s H scope (compEnvC scope (cellsFrom (s.heap.objs.size + 1) scope.names (cloFrom X.env.cells scope.names [])) s.heap.objs.size X.env) fp) rfl rfl rfl calm i [] s5 _ H5 (fun _ _ => False) I5 (fun b hb => ⟨free5 b hb, (I5.ok.exf b hb).1, I5.ok.exfs b hb, .inl hb, fun x c e => (I5.ok.exf b hb).2 x c e, fun p hp => nomatch (show p ∈ ([] : List (Addr × Obj)) from hp)⟩) st5 stop) fun r s6 h => ?_
      obtain ⟨rfl, I6⟩ := h
      have I7 : Inv X pins σ H5 s6 := I.call' (ch := fp) I6.os I6.base I6.hok I6.bare fun b hb => by
        obtain ⟨_, c1, _, c3, c4, c5⟩ := (free b hb).1
        exact ⟨c3, c1, c4, c5⟩
      have gone : H5 s.heap.objs.size = none := I6.free
      obtain ⟨m', names, _⟩ := I6.loc
      obtain ⟨c0, c1, _, c3, c4, c5⟩ := I.fpOk (Nat.le_refl _) gone
      exact ⟨m', names, fun h'' only => ⟨.ref D, H5, I7.turned (t' := s6.toks) (fun b o hb e => (only.2 b hb).trans e) c0 c1 c3 c4 c5, rfl, q⟩⟩
  exact PpSet.codeAny_compStart_set loop (T.self X.A 0 _ _ _ st1 loop)
end
set_option maxHeartbeats 1000000 in
theorem pe_texts {X : Cx} {elt tg iter : Expr} {ifs : List Expr} {scope : Scope} {own : List (PySem.Str × Nat)} {pos : Pos} {wi : TI} {g : TG} {tt : TT} {te : TE} (calm : X.calm = true) (nd : X.N.Nodup) (hi : PI X tg iter wi) (ok : BlkOk X.N X.env.scope scope own)
    (B : InBlock X scope tg ifs elt g tt te) (plain : ∀ x, foldedSetIterable iter X.env x = pure x := by intro _; rfl) : PE X (.SetComp elt [⟨tg, iter, ifs, 0⟩] scope pos) (tTexts X.prog X.w wi g tt te (own.map (·.2))) where
  run pins s σ H Q I told := by
    rw [PpSet.eval_SetComp]
    have closes : ∀ y ∈ scope.names, y.2 = .free → ∃ c, X.env.cells.lookup y.1 = some c := fun y hy e => (ok.free y hy e).elim (fun k => I.ok.has _ (.inl k)) fun k => I.ok.has _ (.inr k)
    refine wpAny_comprehension_free rfl plain (closure_ok closes) ok.kind (fun y hy e => by rw [ok.uniq y hy, e]) (thn (hi.run pins s σ H _ I told) fun _ _ comes => thn comes fun _ s2 ⟨it, fp, tn, J, H2, eit, I2, T, st2, free2, turns⟩ => ?_)
    subst eit
    refine PpSet.newSet_ok (newEnv_comp ?_)
    have unused : H2 s2.heap.objs.size = none := I2.hok.fresh (Nat.le_refl _)
    obtain ⟨N, W, w0, ends, step⟩ := turns _ unused
    have below : ∀ b ∈ fp, b < s2.heap.objs.size := fun b hb => (T.obj _ _ st2 b hb).elim fun o z => Heap.lt_size z.1
    have I3 := I2.laid (t' := s2.toks) (fun b o e => Heap.get?_push_of_some _ e) (Nat.le_refl _) (texts_new (P := X.prog) (w := X.w) SetL.none)
    exact texts_run calm nd I3 ok B T (fun b hb => ⟨⟨by rw [upd_ne (Nat.ne_of_lt (below b hb))]; exact (free2 b hb).1, (free2 b hb).2⟩, by show b < (s2.heap.push _).objs.size; rw [Heap.size_push]; exact Nat.lt_succ_of_lt (below b hb)⟩)
      (T.keep _ _ _ st2 fun b _ o e => Heap.get?_push_of_some _ e) w0 ends step
end Xci

namespace Xci
open PySem PySem.Spec PyProof.Rows L2
/-- a form of a table, or none -/
def formV : Option Str → V
  | some z => .str z
  | none => .non
/-- the unlike forms, rising -/
structure Rising (fs : List (Option Str)) (zs : List Str) : Prop where
  up : sortedS zs = true
  all : ∀ z, z ∈ zs ↔ some z ∈ fs
  nd : zs.Nodup
def spUnlike : Sp := fun vs H Q _ => ∃ (p : Addr) (fs : List (Option Str)), vs = [.ref p] ∧ H p = some (.tup (fs.map formV)) ∧ fs.length < 64 ∧ ∀ (q : Addr) (zs : List Str) (H' : Hp), Rising fs zs → H' q = some (.lst (zs.map V.str)) → Same H H' → Q (.ref q) H'
/-- the class of tables -/
structure TabTxt (K : PySem.W.Frag) (mg : Str → Option Value) (C : Addr) : Prop where
  cl : Cls K C
  nF : NoAttr K C "family"
  nO : NoAttr K C "forms"
  mgC : mg "Table" = some (.ref C)
structure FormCst (mg : Str → Option Value) where
  t1 : Tok
  LONGEST_FORM : mg "LONGEST_FORM" = some (.int 8 t1)
structure TabCst (mg : Str → Option Value) where
  t1 : Tok
  MOST_FORMS : mg "MOST_FORMS" = some (.int 12 t1)
/-- the forms that a table of so many cells can have -/
structure FormsOk (n : Nat) (fs : List (Option Str)) : Prop where
  len : fs.length = n
  few : n ≤ 24
  word : ∀ z, some z ∈ fs → WordOk z
  unlike : ∀ zs, Rising fs zs → zs.length ≤ 12
def spAreForms : Sp := fun vs H Q _ => ∃ (n : Nat) (p : Addr) (fs : List (Option Str)), vs = [.int n, .ref p] ∧ H p = some (.tup (fs.map formV)) ∧ FormsOk n fs ∧ ∀ H', Same H H' → Q (.bl true) H'
def tabF (fam p : Addr) : List (Str × V) := [("family", .ref fam), ("forms", .ref p)]
theorem n_ff : ¬ (("family" : Str) = "forms") := by decide +kernel
theorem putFamily (v : V) : putF "family" v [] = [(("family" : Str), v)] := rfl
theorem putForms (v u : V) : putF "forms" u [(("family" : Str), v)] = [(("family" : Str), v), (("forms" : Str), u)] := by
  show (if ("family" : Str) = "forms" then _ else (("family" : Str), v) :: putF "forms" u []) = _
  rw [if_neg n_ff] <;> rfl
theorem tabF_family (fam p : Addr) : (tabF fam p).lookup ("family" : Str) = some (.ref fam) := by
  unfold tabF
  rw [List.lookup_cons, show ((Str.ofString "family" : Str) == Str.ofString "family") = true from by decide +kernel]
theorem tabF_forms (fam p : Addr) : (tabF fam p).lookup ("forms" : Str) = some (.ref p) := by
  unfold tabF
  rw [List.lookup_cons, show ((Str.ofString "forms" : Str) == Str.ofString "family") = false from by decide +kernel]
  rfl
/-- at b a table of the family at fam with the forms at p -/
def TabAt (C : Addr) (H : Hp) (b fam p : Addr) : Prop := ∃ dx, H b = some (.ins C dx (tabF fam p))
def spTab (CF C : Addr) : Sp := fun vs H Q _ => ∃ (x dx fam : Addr) (many : Int) (pc : Addr) (ys : List V) (p : Addr) (fs : List (Option Str)), vs = [.ref x, .ref fam, .ref p] ∧ H x = some (.ins C dx []) ∧ FamAt CF H fam many pc ∧ x ≠ fam ∧ H pc = some (.tup ys) ∧ H p = some (.tup (fs.map formV)) ∧ FormsOk ys.length fs ∧
  ∀ H' : Hp, TabAt C H' x fam p → (∀ b o, H b = some o → b ≠ x → H' b = some o) → Q .non H'
def spSpoken (C : Addr) : Sp := fun vs H Q _ => ∃ (b fam p : Addr) (fs : List (Option Str)), vs = [.ref b] ∧ TabAt C H b fam p ∧ H p = some (.tup (fs.map formV)) ∧ fs.length < 64 ∧
  ∀ (r : Addr) (zs : List Str) (H' : Hp), Rising fs zs → H' r = some (.tup (zs.map V.str)) → Same H H' → Q (.ref r) H'
def spIsSpoken (C : Addr) : Sp := fun vs H Q _ => ∃ (b fam p : Addr) (fs : List (Option Str)) (z : Str), vs = [.ref b, .str z] ∧ TabAt C H b fam p ∧ H p = some (.tup (fs.map formV)) ∧ some z ∈ fs ∧ Q (.bl true) H
/-- the numbers of the cells with this form -/
def spots (fs : List (Option Str)) (z : Str) : List Nat := (List.range fs.length).filter fun i => decide (fs[i]? = some (some z))
def spCellsOf (C : Addr) : Sp := fun vs H Q _ => ∃ (b fam p : Addr) (fs : List (Option Str)) (z : Str), vs = [.ref b, .str z] ∧ TabAt C H b fam p ∧ H p = some (.tup (fs.map formV)) ∧ fs.length < 64 ∧ some z ∈ fs ∧
  ∀ (r : Addr) (H' : Hp), H' r = some (.tup ((nat2 (spots fs z)).map V.int)) → Same H H' → Q (.ref r) H'
theorem forms_flat (fs : List (Option Str)) : (fs.map formV).all flatV = true := by
  rw [List.all_eq_true]
  intro x hx
  obtain ⟨f, _, rfl⟩ := List.mem_map.mp hx
  cases f <;> rfl
theorem forms_in {fs : List (Option Str)} {z : Str} (h : some z ∈ fs) : inV (.str z) (fs.map formV) = true := by
  unfold inV
  rw [List.any_eq_true]
  refine ⟨.str z, List.mem_map.mpr ⟨some z, h, rfl⟩, ?_⟩
  show eqV (.str z) (.str z) = true
  simp [eqV]
theorem form_scal (f : Option Str) (z : Str) : scal (formV f) (.str z) = true := by cases f <;> rfl
theorem form_is (f : Option Str) (z : Str) : decide (formV f = V.str z) = decide (f = some z) := by
  cases f with
  | none => rfl
  | some y =>
    rw [decide_eq_decide]
    constructor
    · intro h
      injection h with h
      rw [h]
    · intro h
      injection h with h
      rw [h]
      rfl
/-- the spots among the first i cells -/
def spotsTo (fs : List (Option Str)) (z : Str) (i : Nat) : List Nat := (List.range i).filter fun j => decide (fs[j]? = some (some z))
theorem spots_next {fs : List (Option Str)} {z : Str} {i : Nat} {f : Option Str} (e : fs[i]? = some f) : spotsTo fs z (i + 1) = spotsTo fs z i ++ (if decide (f = some z) = true then [i] else []) := by
  unfold spotsTo
  rw [List.range_succ, List.filter_append, List.filter_cons, List.filter_nil, e]
  by_cases q : f = some z
  · rw [if_pos (decide_eq_true q), if_pos (decide_eq_true (congrArg some q))]
  · rw [if_neg (fun h => q (of_decide_eq_true h)), if_neg (fun h => q (Option.some.inj (of_decide_eq_true h)))]
theorem spots_few (fs : List (Option Str)) (z : Str) (i : Nat) : (spotsTo fs z i).length ≤ i := by
  have h := List.length_filter_le (fun j => decide (fs[j]? = some (some z))) (List.range i)
  rw [List.length_range] at h
  exact h
/-- the marks that all cells with this form have -/
def sharedIn (cells : List (List Int)) (fs : List (Option Str)) (z : Str) (m : Int) : Bool := (spots fs z).all fun i => match cells[i]? with
  | some c => decide (m ∈ c)
  | none => true
def spCommon (CF C : Addr) : Sp := fun vs H Q _ => ∃ (b fam p : Addr) (fs : List (Option Str)) (z : Str) (many : Int) (pc : Addr) (ys : List V) (cells : List (List Int)), vs = [.ref b, .str z] ∧ TabAt C H b fam p ∧ H p = some (.tup (fs.map formV)) ∧ FamAt CF H fam many pc ∧ H pc = some (.tup ys) ∧ Mks H ys cells ∧ FamOk many cells ∧ fs.length = cells.length ∧ some z ∈ fs ∧
  ∀ (r : Addr) (ms : List Int) (H' : Hp), H' r = some (.tup (ms.map V.int)) → MarksOk many ms → (∀ m, m ∈ ms ↔ 0 ≤ m ∧ m < many ∧ sharedIn cells fs z m = true) → Same H H' → Q (.ref r) H'
theorem spots_at {fs : List (Option Str)} {z : Str} {j : Nat} : j ∈ spots fs z ↔ fs[j]? = some (some z) := by
  unfold spots
  rw [List.mem_filter, List.mem_range, decide_eq_true_eq]
  exact ⟨fun h => h.2, fun h => ⟨(List.getElem?_eq_some_iff.mp h).1, h⟩⟩
theorem spots_ne {fs : List (Option Str)} {z : Str} (h : some z ∈ fs) : spots fs z ≠ [] := fun e => by
  obtain ⟨j, hj⟩ := List.mem_iff_getElem?.mp h
  have := spots_at.mpr hj
  rw [e] at this
  cases this
theorem spots_len (fs : List (Option Str)) (z : Str) : (spots fs z).length ≤ fs.length := spots_few fs z fs.length
/-- the cells with these numbers -/
def cellsAt (cells : List (List Int)) (js : List Nat) : List (List Int) := js.map fun j => cells.getD j []
theorem cells_placed {H : Hp} {ys : List V} {cells : List (List Int)} (each : Mks H ys cells) : ∀ (js : List Nat), (∀ j ∈ js, j < cells.length) → Mks H (js.map fun j => ys.getD j .non) (cellsAt cells js)
  | [], _ => .nil
  | j :: js, h => by
    have lt := h j List.mem_cons_self
    have len := Paired.length each
    obtain ⟨c, e, m⟩ := Paired.get each (List.getElem?_eq_getElem (show j < ys.length by omega))
    refine .cons ?_ (cells_placed each js fun k hk => h k (List.mem_cons_of_mem _ hk))
    show Xci.Mk H (ys.getD j .non) (cells.getD j [])
    rw [List.getD_eq_getElem?_getD, List.getD_eq_getElem?_getD, e, List.getElem?_eq_getElem (show j < ys.length by omega)]
    exact m
theorem shared_all {cells : List (List Int)} {fs : List (Option Str)} {z : Str} {m : Int} (size : fs.length = cells.length) : sharedIn cells fs z m = (cellsAt cells (spots fs z)).all fun c => decide (m ∈ c) := by
  unfold sharedIn cellsAt
  rw [List.all_map, Bool.eq_iff_iff, List.all_eq_true, List.all_eq_true]
  have one : ∀ j ∈ spots fs z, cells[j]? = some (cells.getD j []) := fun j hj => by
    have lt : j < cells.length := by have := (List.getElem?_eq_some_iff.mp (spots_at.mp hj)).1; omega
    rw [List.getD_eq_getElem?_getD, List.getElem?_eq_getElem lt] <;> rfl
  constructor
  · intro h j hj
    have := h j hj
    rw [one j hj] at this
    exact this
  · intro h j hj
    rw [one j hj]
    exact h j hj
/-- not after -/
def upTo (a b : Str) : Prop := a.cps.toList ≤ b.cps.toList
theorem upTo_of {a b : Str} (h : ltCps b.cps.toList a.cps.toList = false) : upTo a b := by
  rw [ltCps_eq] at h
  exact List.not_lt.mp (of_decide_eq_false h)
theorem rising_pairs : ∀ (x : Str) (r : List Str), risingS x r = true → (∀ y ∈ r, upTo x y) ∧ r.Pairwise upTo
  | _, [], _ => ⟨nofun, .nil⟩
  | x, y :: r, h => by
    have h' : (!ltCps y.cps.toList x.cps.toList && risingS y r) = true := h
    rw [Bool.and_eq_true, Bool.not_eq_true'] at h'
    obtain ⟨a, b⟩ := h'
    obtain ⟨c, d⟩ := rising_pairs y r b
    have xy := upTo_of a
    refine ⟨fun z hz => ?_, List.pairwise_cons.mpr ⟨c, d⟩⟩
    rcases List.mem_cons.mp hz with e | hz
    · rw [e]; exact xy
    · exact List.le_trans xy (c z hz)
theorem sorted_pairs : ∀ (l : List Str), sortedS l = true → l.Pairwise upTo
  | [], _ => .nil
  | x :: r, h => List.pairwise_cons.mpr (rising_pairs x r h)
theorem str_ext {a b : Str} (h : a.cps.toList = b.cps.toList) : a = b := by
  obtain ⟨⟨x⟩⟩ := a
  obtain ⟨⟨y⟩⟩ := b
  have e : x = y := h
  rw [e]
/-- the unlike forms of a table, rising, are one list -/
theorem Rising.one {fs : List (Option Str)} {xs ys : List Str} (h : Rising fs xs) (k : Rising fs ys) : xs = ys :=
  List.Perm.eq_of_pairwise (le := upTo) (fun a b _ _ p q => str_ext (List.le_antisymm p q)) (sorted_pairs xs h.up) (sorted_pairs ys k.up)
    ((List.perm_ext_iff_of_nodup h.nd k.nd).mpr fun z => (h.all z).trans (k.all z).symm)
theorem MarksOk.one {n n' : Int} {xs ys : List Int} (h : MarksOk n xs) (k : MarksOk n' ys) (same : ∀ m, m ∈ xs ↔ m ∈ ys) : xs = ys :=
  List.Perm.eq_of_pairwise (le := (· < ·)) (fun a b _ _ p q => by omega) h.up k.up ((List.perm_ext_iff_of_nodup h.nd k.nd).mpr same)
end Xci

namespace Xci
open PySem L2

section
variable {P : Program} {w : World} {K : PySem.W.Frag} {mg : Str → Option Value} {base : Heap}
abbrev sUnlike : Stmt := top 16
theorem scUnlike : FnScope ["forms", "form"] ["forms"] (defScope sUnlike) := ⟨rfl, rfl, rfl, by decide +kernel, rfl, by decide +kernel, by decide +kernel⟩

theorem ok_unlike {f : Addr} {fd : FuncData} (F : Fun K "_unlike" "_unlike" sUnlike f fd) (T : Txt mg) : FnOk P w K mg base CX0 1 f fd ["forms"] spUnlike := by
  refine F.ok scUnlike (fun vs H Q E h => ?_) (fun cdv A outer s H vs Q E hr h => ?_)
  · obtain ⟨p, fs, rfl, _⟩ := h
    rfl
  · obtain ⟨p, fs, rfl, hp, few, k⟩ := h
    refine ⟨_, (pss_one (ps_ret (pe_callB (cr_sortedTexts rfl) rfl T.sorted (by decide +kernel) (pa_cons (pe_texts (own := [("form", 1)]) rfl scUnlike.nd (pi_tup (pv 0)) (blkOk_by (N := ["forms", "form"]) (sc := defScope sUnlike) (by decide +kernel)) ⟨fun _ _ _ _ _ => (pg_name (i := 1) scUnlike.nd rfl (by first | exact Or.inl rfl | exact Or.inr rfl)), fun _ _ _ _ _ => pts_one (pt_cmpR op_notN (pv 1) pe_non (nomark _)), fun _ _ _ _ _ => (pv 1)⟩) pa_nil)))), ?_⟩
    refine ⟨_, rfl, p, rfl, ⟨_, sqT hp⟩, fun D hD => ⟨fs.length, fun i H2 => ∃ seen : List Str, seen.Nodup ∧ (∀ z, z ∈ seen ↔ some z ∈ fs.take i) ∧ seen.length ≤ i ∧ Same H H2 ∧ H2 D = some (TextsO P w D (fun z => decide (z ∈ seen)) seen.length), ?_, ?_, ?_⟩⟩
    · refine ⟨[], List.nodup_nil, fun z => by simp, Nat.le_refl _, Same.new hD, ?_⟩
      rw [upd_same]
      rfl
    · rintro H2 ⟨seen, nd, all, le, same, at2⟩
      rw [List.take_length] at all
      refine ⟨⟨fs.map formV, sqT (same _ _ hp), by rw [List.length_map]; exact Nat.le_refl _⟩, D, _, _, rfl, at2, by omega, fun xs q up members len free => k q xs _ ⟨up, fun z => ?_, ?_⟩ upd_same (same.trans (Same.new free))⟩
      · rw [members z, decide_eq_true_eq]
        exact all z
      · exact (count_unlike nd fun z => by rw [members z, decide_eq_true_eq]).2.mp len.symm
    · rintro i H2 hi ⟨seen, nd, all, le, same, at2⟩
      have hp2 := same _ _ hp
      refine ⟨⟨fs.map formV, formV fs[i], sqT hp2, by rw [List.getElem?_map, List.getElem?_eq_getElem hi] <;> rfl⟩, fun x H3 told => ?_⟩
      obtain ⟨rfl, told⟩ := told
      have ex : x = formV fs[i] := by
        have z := told _ (sqT hp2)
        rw [List.getElem?_map, List.getElem?_eq_getElem hi] at z
        exact (Option.some.inj z).symm
      subst ex
      have next : fs.take (i + 1) = fs.take i ++ [fs[i]] := by rw [List.take_succ, List.getElem?_eq_getElem hi] <;> rfl
      refine ⟨rfl, _, rfl, rfl, ?_⟩
      cases form : fs[i] with
      | none =>
        refine ⟨_, rfl, ?_⟩
        refine ite2 (fun no => ?_) (fun _ => ⟨seen, nd, fun z => ?_, by omega, same, at2⟩)
        · have no' : (!decide (V.non = V.non)) = true := no
          rw [decide_eq_true rfl] at no'
          cases no'
        · rw [next, form, all z]
          simp
      | some c =>
        refine ⟨_, rfl, ?_⟩
        refine ite2 (fun _ => ?_) (fun no => absurd (show (!decide (V.str c = V.non)) = true by rw [decide_eq_false (fun z : V.str c = V.non => nomatch z)] <;> rfl) no)
        refine ⟨_, rfl, c, _, _, rfl, at2, Nat.lt_of_lt_of_le (Nat.succ_lt_succ (Nat.lt_of_le_of_lt le (Nat.lt_trans hi few))) (by decide), ?_⟩
        have kept : ∀ o, Same H (upd H3 D o) := fun o b u e => by
          rw [upd_ne (ne_of_none e hD)]
          exact same b u e
        by_cases old : c ∈ seen
        · refine ⟨seen, nd, fun z => ?_, by omega, kept _, ?_⟩
          · rw [next, form, List.mem_append, List.mem_singleton, all z]
            constructor
            · exact .inl
            · rintro (h | h)
              · exact h
              · rw [Option.some.inj h]
                exact (all c).mp old
          · rw [upd_same, if_pos (decide_eq_true old)]
            refine congrArg some (congrArg (fun S => TextsO P w D S seen.length) (funext fun j => ?_))
            by_cases e : j = c
            · rw [e, decide_eq_true old] <;> rfl
            · rw [decide_eq_false e, Bool.or_false]
        · refine ⟨c :: seen, List.nodup_cons.mpr ⟨old, nd⟩, fun z => ?_, by rw [List.length_cons]; omega, kept _, ?_⟩
          · rw [next, form, List.mem_append, List.mem_singleton, List.mem_cons, all z]
            constructor
            · rintro (h | h)
              · rw [h]; exact .inr rfl
              · exact .inl h
            · rintro (h | h)
              · exact .inr h
              · exact .inl (Option.some.inj h)
          · rw [upd_same, if_neg (fun q => old (of_decide_eq_true q)), List.length_cons]
            refine congrArg some (congrArg (fun S => TextsO P w D S (seen.length + 1)) (funext fun j => ?_))
            by_cases e : j = c
            · rw [e, decide_eq_false old, decide_eq_true rfl, decide_eq_true List.mem_cons_self] <;> rfl
            · rw [decide_eq_false e, Bool.or_false]
              exact decide_eq_decide.mpr ⟨List.mem_cons_of_mem _, fun h => (List.mem_cons.mp h).resolve_left e⟩
abbrev sIsForm : Stmt := top 10
theorem scIsForm : FnScope ["thing", "letter"] ["thing"] (defScope sIsForm) := ⟨rfl, rfl, rfl, by decide +kernel, rfl, by decide +kernel, by decide +kernel⟩

theorem ok_form {f : Addr} {fd : FuncData} (F : Fun K "is_form" "is_form" sIsForm f fd) (T : Txt mg) (c : FormCst mg) : FnOk P w K mg base CX0 1 f fd ["thing"] spIsForm := by
  refine F.ok scIsForm (fun vs H Q E h => ?_) (fun cdv A outer s H vs Q E hr h => ?_)
  · obtain ⟨z, rfl, _⟩ := h
    rfl
  · obtain ⟨z, rfl, ok, k⟩ := h
    refine ⟨_, (pss_cons (ps_if (PW.pt (pw_or (pt_not (pt_val (pe_callB call_isi rfl T.isinstance (by decide +kernel) (pa_cons (pv 0) (pa_cons (pe_bltn rfl T.str (by decide +kernel) (v := V.ty "str") rfl) pa_nil))))) (pw_or1 (pt_not (pt_chain op_le op_le pe_int (pe_callB call_len rfl T.len PySem.boot_len (pa_cons (pv 0) pa_nil)) (pe_gint rfl c.LONGEST_FORM)))))) (pss_one (ps_ret pe_bl)) pss_nil)
      (pss_cons (ps_for PassesOwn.never rfl (pi_str (pv 0)) (pg_name (i := 1) scIsForm.nd rfl (by first | exact Or.inl rfl | exact Or.inr rfl)) (pss_one (ps_if (pt_not (pt_chain op_le_str op_le_str pe_str (pv 1) pe_str)) (pss_one (ps_ret pe_bl)) pss_nil)))
      (pss_one (ps_ret pe_bl)))), ?_⟩
    refine ⟨_, rfl, _, _, _, _, true, rfl, .ty _, .base (.str _), kit_ty (by decide +kernel), _, rfl, ?_⟩
    refine iteF ?_
    have e1 : decide ((1 : Int) ≤ ((z.length : Nat) : Int)) = true := decide_eq_true (by have := ok.lo; omega)
    have e2 : decide (((z.length : Nat) : Int) ≤ (8 : Int)) = true := decide_eq_true (by have := ok.hi; omega)
    refine ⟨_, rfl, _, z.length, rfl, ⟨Nat.le_of_lt (small1000 (by have := ok.hi; omega)), rfl⟩, _, _, rfl, rfl, _, rfl, ?_⟩
    refine ite2 (fun _ => ?_) (fun hf => absurd e1 hf)
    refine ⟨_, _, rfl, rfl, _, rfl, ?_⟩
    refine ite2 (fun hf => ?_) (fun _ => ?_)
    · have hf' : (!decide (((z.length : Nat) : Int) ≤ (8 : Int))) = true := hf
      rw [e2] at hf'
      cases hf'
    refine ⟨_, rfl, z, rfl, for_it (walk_str (z := z)) (fun i σ H2 => H2 = H ∧ ∃ v : Option V, σ = [some (.str z), v]) ⟨rfl, none, rfl⟩ (fun _ _ _ _ _ => trivial) ?_ ?_⟩
    · rintro i x σ H2 H3 hi ⟨rfl, v, rfl⟩ ⟨rfl, l, hl, rfl⟩
      have mem : l ∈ z.cps.toList := by
        rw [← Array.getElem?_toList] at hl
        exact List.mem_of_getElem? hl
      obtain ⟨b1, b2⟩ := ok.az l mem
      have q1 : (!decide ((⟨#[l]⟩ : Str).cps.toList < (Str.ofString "a").cps.toList)) = true := by
        have : (Str.ofString "a").cps.toList = [97] := by decide +kernel
        rw [this]
        show (!decide ([l] < [97])) = true
        rw [decide_eq_false (fun h => by have := List.cons_lt_cons_iff.mp h; simp at this; omega)]
        rfl
      have q2 : (!decide ((Str.ofString "z").cps.toList < (⟨#[l]⟩ : Str).cps.toList)) = true := by
        have : (Str.ofString "z").cps.toList = [122] := by decide +kernel
        rw [this]
        show (!decide ([122] < [l])) = true
        rw [decide_eq_false (fun h => by have := List.cons_lt_cons_iff.mp h; simp at this; omega)]
        rfl
      refine ⟨_, rfl, _, _, rfl, rfl, _, rfl, ?_⟩
      refine ite2 (fun _ => ?_) (fun hf => absurd q1 hf)
      refine ⟨_, _, rfl, rfl, _, rfl, ?_⟩
      refine ite2 (fun hf => ?_) (fun _ => ⟨rfl, _, rfl⟩)
      have hf' : (!(!decide ((Str.ofString "z").cps.toList < (⟨#[l]⟩ : Str).cps.toList))) = true := hf
      rw [q2] at hf'
      cases hf'
    · rintro σ H2 ⟨rfl, v, rfl⟩
      exact k
abbrev sAreForms : Stmt := top 15
theorem scAreForms : FnScope ["length", "thing", "form"] ["length", "thing"] (defScope sAreForms) := ⟨rfl, rfl, rfl, by decide +kernel, rfl, by decide +kernel, by decide +kernel⟩

theorem ok_areForms {f : Addr} {fd : FuncData} (F : Fun K "_are_forms" "_are_forms" sAreForms f fd) (T : Txt mg) (c : TabCst mg) (HF : Has P w K mg base "is_form" ["thing"] 1 spIsForm) (HU : Has P w K mg base "_unlike" ["forms"] 1 spUnlike) : FnOk P w K mg base CX0 2 f fd ["length", "thing"] spAreForms := by
  refine F.ok scAreForms (fun vs H Q E h => ?_) (fun cdv A outer s H vs Q E hr h => ?_)
  · obtain ⟨n, p, fs, rfl, _⟩ := h
    rfl
  · obtain ⟨n, p, fs, rfl, hp, ok, k⟩ := h
    refine ⟨_, (pss_cons (ps_if (PW.pt (pw_or (pt_not (pt_val (pe_callB call_isi rfl T.isinstance (by decide +kernel) (pa_cons (pv 1) (pa_cons (pe_bltn rfl T.tuple (by decide +kernel) (v := V.ty "tuple") rfl) pa_nil))))) (pw_or1 (pt_cmpR op_ne (pe_callB call_len rfl T.len PySem.boot_len (pa_cons (pv 1) pa_nil)) (pv 0) (nomark _))))) (pss_one (ps_ret pe_bl)) pss_nil)
      (pss_cons (ps_for PassesOwn.never rfl (pi_tup (pv 1)) (pg_name (i := 2) scAreForms.nd rfl (by first | exact Or.inl rfl | exact Or.inr rfl)) (pss_one (ps_if (PW.pt (pw_and (pt_cmpR op_notN (pv 2) pe_non (nomark _)) (pw_and1 (pt_not (pt_val (pe_callH HF (hr.mono (by decide)) rfl (pa_cons (pv 2) pa_nil))))))) (pss_one (ps_ret pe_bl)) pss_nil)))
      (pss_one (ps_ret (pe_cmpR op_le (pe_callB call_len rfl T.len PySem.boot_len (pa_cons (pe_callH HU (hr.mono (by decide)) rfl (pa_cons (pv 1) pa_nil)) pa_nil)) (pe_gint rfl c.MOST_FORMS) (nomark _)))))), ?_⟩
    have size : (fs.map formV).length = n := by rw [List.length_map]; exact ok.len
    have few := ok.few
    refine ⟨_, rfl, _, _, _, _, true, rfl, .ty _, .base (.tup hp), kit_ty (by decide +kernel), _, rfl, ?_⟩
    refine iteF ?_
    refine ⟨_, rfl, _, n, rfl, .inr ⟨_, sqT hp, size.symm⟩, _, rfl, rfl, _, rfl, ?_⟩
    refine ite2 (fun no => ?_) (fun _ => ?_)
    · have no' : (!decide (V.int (n : Int) = V.int (n : Int))) = true := no
      rw [decide_eq_true rfl] at no'
      cases no'
    refine ⟨_, rfl, p, rfl, ⟨_, sqT hp⟩, for_tup (K := K) (a := p) (xs := fs.map formV) (fun i σ H2 => H2 = H ∧ ∃ v : Option V, σ = [some (.int n), some (.ref p), v]) ⟨rfl, none, rfl⟩ (fun i σ H2 _ ⟨e, _⟩ => by rw [e]; exact sqT hp) ?_ ?_⟩
    · rintro i y σ H2 hi ⟨rfl, v, rfl⟩
      rw [List.getElem?_map] at hi
      obtain ⟨form, at_, rfl⟩ := Option.map_eq_some_iff.mp hi
      refine ⟨_, rfl, rfl, _, rfl, ?_⟩
      cases form with
      | none =>
        refine ite2 (fun no => ?_) (fun _ => iteF ⟨rfl, _, rfl⟩)
        have no' : (!decide (V.non = V.non)) = true := no
        rw [decide_eq_true rfl] at no'
        cases no'
      | some z =>
        refine ite2 (fun _ => ?_) (fun no => absurd (show (!decide (V.str z = V.non)) = true by rw [decide_eq_false (fun q : V.str z = V.non => nomatch q)] <;> rfl) no)
        refine ⟨_, rfl, z, rfl, ok.word z (List.mem_of_getElem? at_), _, rfl, ?_⟩
        exact iteF ⟨rfl, _, rfl⟩
    · rintro σ H2 ⟨rfl, v, rfl⟩
      refine ⟨_, rfl, p, fs, rfl, hp, (by rw [ok.len]; omega), fun q zs H' rise hq same => ⟨_, zs.length, rfl, .inl ⟨_, SqL.of hq, by rw [List.length_map]⟩, _, _, rfl, rfl, ?_⟩⟩
      show Q (V.bl (decide (((zs.length : Nat) : Int) ≤ 12))) H'
      rw [decide_eq_true (show ((zs.length : Nat) : Int) ≤ 12 from by have := ok.unlike zs rise; omega)]
      exact k _ same
abbrev sTableInit : Stmt := inClass (top 14) 0
theorem scTableInit : FnScope ["self", "family", "forms"] ["self", "family", "forms"] (defScope sTableInit) := ⟨rfl, rfl, rfl, by decide +kernel, rfl, by decide +kernel, by decide +kernel⟩

theorem ok_table {f C CF : Addr} {fd : FuncData} (F : Fun K "__init__" "Table.__init__" sTableInit f fd) (T : Txt mg) (TT : TabTxt K mg C) (FT : FamTxt K mg CF) (HA : Has P w K mg base "_are_forms" ["length", "thing"] 2 spAreForms) :
    FnOk P w K mg base CX0 3 f fd ["self", "family", "forms"] (spTab CF C) := by
  refine F.ok scTableInit (fun vs H Q E h => ?_) (fun cdv A outer s H vs Q E hr h => ?_)
  · obtain ⟨x, dx, fam, many, pc, ys, p, fs, rfl, _⟩ := h
    rfl
  · obtain ⟨x, dx, fam, many, pc, ys, p, fs, rfl, hx, ⟨df, hf⟩, ne, hc, hp, ok, k⟩ := h
    refine ⟨_, (pss_cons (ps_if (pt_not (pt_val (pe_callH HA (hr.mono (by decide)) rfl (pa_cons (pe_callB call_len rfl T.len PySem.boot_len (pa_cons (pe_fld (pv 1) rfl) pa_nil)) (pa_cons (pv 2) pa_nil))))) (pss_one ps_never) pss_nil)
      (pss_cons (ps_fld (pv 0) (pv 1) rfl)
      (pss_one (ps_fld (pv 0) (pv 2) rfl)))), ?_⟩
    refine ⟨_, rfl, fam, CF, df, _, _, rfl, hf, FT.cl, FT.nC, famF_cells _ _, _, ys.length, rfl, .inr ⟨_, sqT hc, rfl⟩, _, rfl, ys.length, p, fs, rfl, hp, ok, fun H' same => ?_⟩
    refine ⟨_, rfl, ?_⟩
    refine iteF ?_
    refine ⟨_, rfl, _, rfl, x, C, dx, [], rfl, same _ _ hx, TT.cl, TT.nF, (by show 0 < 1000; decide), ?_⟩
    refine ⟨_, rfl, _, rfl, x, C, dx, _, rfl, upd_same, TT.cl, TT.nO, (by show 1 < 1000; decide), ?_⟩
    refine k _ ⟨dx, ?_⟩ fun b o e hb => ?_
    · rw [upd_same, putFamily, putForms]
      rfl
    · rw [upd_ne hb, upd_ne hb]
      exact same b o e
end
end Xci

namespace Xci
open PySem L2
/-! ### things that compare: what is written in a tuple or a list of ints, texts, None -/
def pd : V → PyData
  | .int i => .int i
  | .str x => .str x
  | .bl b => .bool b
  | _ => .none
def okV : V → Bool
  | .int _ => true
  | .str x => PyData.strOk x
  | .bl _ => true
  | .non => true
  | _ => false
theorem dpV {K : PySem.W.Frag} {H : Hp} {x : V} (h : okV x = true) : Dp K H x (pd x) := by
  cases x with
  | int i => exact .int i
  | str z => exact .str z
  | bl b => exact .bl b
  | non => exact .non
  | byt _ => cases h
  | flt _ => cases h
  | ref _ => cases h
  | ty _ => cases h
theorem layV {x : V} (h : okV x = true) : PyData.canLay0 (pd x) = true ∧ PyData.depth (pd x) = 0 := by
  cases x with
  | int i => exact ⟨by simp [pd, PyData.canLay0], by simp [pd, PyData.depth]⟩
  | str z => exact ⟨by simpa [pd, PyData.canLay0, okV] using h, by simp [pd, PyData.depth]⟩
  | bl b => exact ⟨by simp [pd, PyData.canLay0], by simp [pd, PyData.depth]⟩
  | non => exact ⟨by simp [pd, PyData.canLay0], by simp [pd, PyData.depth]⟩
  | byt _ => cases h
  | flt _ => cases h
  | ref _ => cases h
  | ty _ => cases h
theorem dpVs {K : PySem.W.Frag} {H : Hp} : ∀ {xs : List V}, (∀ x ∈ xs, okV x = true) → DpAll K H xs (xs.map pd)
  | [], _ => .nil
  | x :: r, h => .cons (dpV (h x List.mem_cons_self)) (dpVs fun y hy => h y (List.mem_cons_of_mem _ hy))
theorem layVs : ∀ {xs : List V}, (∀ x ∈ xs, okV x = true) → PyData.canLayAll0 (xs.map pd) = true ∧ PyData.depthAll (xs.map pd) = 0
  | [], _ => ⟨rfl, rfl⟩
  | x :: r, h => by
    obtain ⟨a, b⟩ := layV (h x List.mem_cons_self)
    obtain ⟨c, d⟩ := layVs (xs := r) fun y hy => h y (List.mem_cons_of_mem _ hy)
    rw [List.map_cons]
    simp [PyData.canLayAll0, PyData.depthAll, a, b, c, d]
theorem sh_tup {xs : List V} (h : ∀ x ∈ xs, okV x = true) : SeqAt.shaped (.tuple (xs.map pd)) = true := by
  obtain ⟨a, b⟩ := layVs h
  simp [SeqAt.shaped, PyData.canLay0, PyData.depth, a, b]
theorem sh_lst {xs : List V} (h : ∀ x ∈ xs, okV x = true) : SeqAt.shaped (.list (xs.map pd)) = true := by
  obtain ⟨a, b⟩ := layVs h
  simp [SeqAt.shaped, PyData.canLay0, PyData.depth, a, b]
theorem eqv_same {d : PyData} (h : SeqAt.shaped d = true) : PyData.eqv d d = true := SeqAt.eqv_refl d (SeqAt.canLay_of_shaped h)
/-- u != v of two tuples with the same things: no -/
theorem ne_tup {K : PySem.W.Frag} {H : Hp} {u v : V} {xs : List V} {Q : V → Hp → Prop} (tu : Tup H u xs) (tv : Tup H v xs) (ok : ∀ x ∈ xs, okV x = true) (q : Q (.bl false) H) : rNeD K u v H Q := by
  obtain ⟨a, rfl, ha⟩ := tu
  obtain ⟨b, rfl, hb⟩ := tv
  refine ⟨.tuple (xs.map pd), .tuple (xs.map pd), .tup (sqT ha) (dpVs ok), .tup (sqT hb) (dpVs ok), sh_tup ok, sh_tup ok, ?_⟩
  rw [eqv_same (sh_tup ok)]
  exact q
theorem ne_lst {K : PySem.W.Frag} {H : Hp} {a b : Addr} {xs : List V} {Q : V → Hp → Prop} (ha : H a = some (.lst xs)) (hb : H b = some (.lst xs)) (ok : ∀ x ∈ xs, okV x = true) (q : Q (.bl false) H) : rNeD K (.ref a) (.ref b) H Q := by
  refine ⟨.list (xs.map pd), .list (xs.map pd), .lst (SqL.of ha) (dpVs ok), .lst (SqL.of hb) (dpVs ok), sh_lst ok, sh_lst ok, ?_⟩
  rw [eqv_same (sh_lst ok)]
  exact q
theorem ok_intsV (ns : List Int) : ∀ x ∈ ns.map V.int, okV x = true := fun x hx => by
  obtain ⟨n, _, rfl⟩ := List.mem_map.mp hx
  rfl
theorem WordOk.strOk {z : Str} (h : WordOk z) : PyData.strOk z = true := by
  unfold PyData.strOk
  rw [← Array.all_toList, List.all_eq_true]
  intro c hc
  have := h.az c hc
  exact decide_eq_true (by omega)
theorem ok_strsV {zs : List Str} (h : ∀ z ∈ zs, WordOk z) : ∀ x ∈ zs.map V.str, okV x = true := fun x hx => by
  obtain ⟨z, hz, rfl⟩ := List.mem_map.mp hx
  exact (h z hz).strOk
theorem ok_formsV {fs : List (Option Str)} (h : ∀ z, some z ∈ fs → WordOk z) : ∀ x ∈ fs.map formV, okV x = true := fun x hx => by
  obtain ⟨f, hf, rfl⟩ := List.mem_map.mp hx
  cases f with
  | none => rfl
  | some z => exact (h z hf).strOk
theorem cutTo (xs : List V) (k : Nat) : cutV xs none (some (k : Int)) = xs.take k := by
  unfold cutV
  have e0 : HT.sIx xs.length 0 none = 0 := rfl
  rw [e0, HT.sIx_nat, List.drop_zero, Nat.sub_zero, ← List.take_take, List.take_length]
theorem forms_inV (z : Str) (fs : List (Option Str)) : inV (.str z) (fs.map formV) = decide (some z ∈ fs) := by
  unfold inV
  rw [List.any_map]
  induction fs with
  | nil => rfl
  | cons a r ih =>
    rw [List.any_cons, ih]
    cases a with
    | none =>
      show (false || decide (some z ∈ r)) = decide (some z ∈ none :: r)
      simp
    | some y =>
      show ((y == z) || decide (some z ∈ r)) = decide (some z ∈ some y :: r)
      by_cases e : y = z
      · subst e; simp
      · have e' : ¬ z = y := fun q => e q.symm
        simp [e, e']
/-- the numbers of the open cells -/
def openN (fs : List (Option Str)) (i : Nat) : List Nat := (List.range i).filter fun j => decide (fs[j]? = some none)
theorem open_next {fs : List (Option Str)} {i : Nat} {f : Option Str} (e : fs[i]? = some f) : openN fs (i + 1) = openN fs i ++ (if f = none then [i] else []) := by
  unfold openN
  rw [List.range_succ, List.filter_append, List.filter_cons, List.filter_nil, e]
  by_cases q : f = none
  · rw [if_pos q, if_pos (decide_eq_true (congrArg some q))]
  · rw [if_neg q, if_neg (fun h => q (Option.some.inj (of_decide_eq_true h)))]
theorem open_len (fs : List (Option Str)) (i : Nat) : (openN fs i).length ≤ i := by
  have h := List.length_filter_le (fun j => decide (fs[j]? = some none)) (List.range i)
  rw [List.length_range] at h
  exact h
/-- the cells that are open or have one of these forms, each once -/
structure SeenOk (fs : List (Option Str)) (done : List Str) (js : List Nat) : Prop where
  nd : js.Nodup
  all : ∀ j, j ∈ js ↔ fs[j]? = some none ∨ ∃ z ∈ done, fs[j]? = some (some z)
theorem SeenOk.start (fs : List (Option Str)) : SeenOk fs [] (openN fs fs.length) := by
  refine ⟨List.Sublist.nodup List.filter_sublist List.nodup_range, fun j => ?_⟩
  unfold openN
  rw [List.mem_filter, List.mem_range, decide_eq_true_eq]
  constructor
  · exact fun h => .inl h.2
  · rintro (h | ⟨z, hz, _⟩)
    · exact ⟨(List.getElem?_eq_some_iff.mp h).1, h⟩
    · cases hz
theorem spots_nd (fs : List (Option Str)) (z : Str) : (spots fs z).Nodup := List.Sublist.nodup List.filter_sublist List.nodup_range
theorem SeenOk.next {fs : List (Option Str)} {done : List Str} {js : List Nat} {z : Str} (h : SeenOk fs done js) (new : z ∉ done) : SeenOk fs (done ++ [z]) (js ++ spots fs z) := by
  refine ⟨List.nodup_append.mpr ⟨h.nd, spots_nd fs z, fun a ha b hb e => ?_⟩, fun j => ?_⟩
  · subst e
    have q := spots_at.mp hb
    rcases (h.all a).mp ha with r | ⟨y, hy, r⟩
    · rw [q] at r; cases r
    · rw [q] at r
      have : z = y := Option.some.inj (Option.some.inj r)
      subst this
      exact new hy
  · rw [List.mem_append, h.all j, spots_at]
    constructor
    · rintro ((r | ⟨y, hy, r⟩) | r)
      · exact .inl r
      · exact .inr ⟨y, List.mem_append_left _ hy, r⟩
      · exact .inr ⟨z, List.mem_append_right _ (List.mem_singleton.mpr rfl), r⟩
    · rintro (r | ⟨y, hy, r⟩)
      · exact .inl (.inl r)
      · rcases List.mem_append.mp hy with hy | hy
        · exact .inl (.inr ⟨y, hy, r⟩)
        · rw [List.mem_singleton.mp hy] at r
          exact .inr r
theorem SeenOk.whole {fs : List (Option Str)} {zs : List Str} {js : List Nat} (h : SeenOk fs zs js) (r : ∀ z, z ∈ zs ↔ some z ∈ fs) : js.Perm (List.range fs.length) := by
  refine (List.perm_ext_iff_of_nodup h.nd List.nodup_range).mpr fun j => ?_
  rw [h.all j, List.mem_range]
  constructor
  · rintro (q | ⟨z, _, q⟩)
    · exact (List.getElem?_eq_some_iff.mp q).1
    · exact (List.getElem?_eq_some_iff.mp q).1
  · intro lt
    have q : fs[j]? = some fs[j] := List.getElem?_eq_getElem lt
    cases e : fs[j] with
    | none => rw [e] at q; exact .inl q
    | some z =>
      rw [e] at q
      exact .inr ⟨z, (r z).mpr (List.mem_of_getElem? q), q⟩
/-- sorted numbers that are a perm of 0 .. n are these -/
theorem sorted_rng {ns : List Int} {js : List Nat} {n : Nat} (p : ns.Perm (nat2 js)) (q : js.Perm (List.range n)) (up : ns.Pairwise (· ≤ ·)) : ns = rng (n : Int) := by
  have e : rng (n : Int) = nat2 (List.range n) := by unfold rng nat2; rw [Int.toNat_natCast]
  have pp : ns.Perm (rng (n : Int)) := by
    rw [e]
    exact p.trans (q.map _)
  refine List.Perm.eq_of_pairwise (le := (· ≤ ·)) (fun a b _ _ h k => by omega) up ((rng_ok (n : Int)).up.imp fun h => by omega) pp
/-- told forms that came for the first time, as they come -/
theorem first_next {fs : List (Option Str)} {i : Nat} {seen : List Str} {z : Str} (h : ∀ y, y ∈ seen ↔ some y ∈ fs.take i) (e : fs[i]? = some (some z)) : ∀ y, y ∈ (if some z ∈ fs.take i then seen else seen ++ [z]) ↔ some y ∈ fs.take (i + 1) := fun y => by
  rw [List.take_add_one, e, List.mem_append]
  split
  · rename_i old
    rw [h y]
    constructor
    · exact .inl
    · rintro (q | q)
      · exact q
      · have : y = z := Option.some.inj (List.mem_singleton.mp q)
        rw [this]; exact old
  · rw [List.mem_append, h y, List.mem_singleton]
    constructor
    · rintro (q | q)
      · exact .inl q
      · rw [q]; exact .inr (List.mem_singleton.mpr rfl)
    · rintro (q | q)
      · exact .inl q
      · exact .inr (Option.some.inj (List.mem_singleton.mp q))
end Xci

set_option maxHeartbeats 4000000
/-! ### sorted(a list of tuples of ints, of whatever lengths) -/
namespace TI
open PySem PyProof.Rows Srt SrtO
section
variable {prog : Program} {w : World} {A : Around} {E : Value → Shared → Prop} {s : Shared}
theorem lex_walk {b fin : Bool} {Q : Bool → Shared → Prop} : ∀ {xs ys : List Value} {ns ms : List Int} (i : Nat), IntsAre xs ns → IntsAre ys ms → fin = decide (ns.length < ms.length) → Q (HT.lexLt ns ms) s → PySem.W.KatLex prog w A b fin Q (xs.zip ys) i s
  | _, _, _, _, _, .nil, .nil, ef, q => by
    have e : fin = false := ef.trans (decide_eq_false (Nat.lt_irrefl _))
    rw [HT.lexLt_nil_nil, ← e] at q
    exact PySem.W.kat_nil q
  | _, _, _, _, _, .nil, .cons c u _, ef, q => by
    have e : fin = true := ef.trans (decide_eq_true (Nat.zero_lt_succ _))
    rw [HT.lexLt_nil_cons, ← e] at q
    exact PySem.W.kat_nil q
  | _, _, _, _, _, .cons c u _, .nil, ef, q => by
    have e : fin = false := ef.trans (decide_eq_false (Nat.not_lt_zero _))
    rw [HT.lexLt_cons_nil, ← e] at q
    exact PySem.W.kat_nil q
  | _, _, _, _, i, .cons c u hx, .cons d v hy, ef, q => by
    rw [HT.lexLt_cons] at q
    refine PySem.W.kat_cons (SeqAt.EqAt.int_int c u d v prog w _ _ ?_)
    refine PySem.W.kat_go (fun same => PySem.W.kat_yes ?_) (fun other => PySem.W.kat_no (TS.oneLt_ints _ ?_))
    · have e : c = d := by simpa using same
      rw [if_pos e] at q
      exact lex_walk (i + 1) hx hy (ef.trans (by rw [List.length_cons, List.length_cons]; exact decide_eq_decide.mpr Nat.succ_lt_succ_iff)) q
    · have e : ¬ c = d := by simpa using other
      rw [if_neg e] at q
      exact q
theorem size_ints {xs : Array Value} {ns : List Int} (i : IntsAre xs.toList ns) : xs.size = ns.length := by
  rw [← i.length, Array.length_toList]
/-- two tuples of ints, by what the sort knows of the keys -/
theorem lt_tuples {x : Bool} {v u : Value} {ns ms : List Int} {Q : Bool → Shared → Prop} (hv : TS.TupInts s.heap v ns) (hu : TS.TupInts s.heap u ms) (q : Q (HT.lexLt ns ms) s) : wpAny (model prog w) A (keyLt' (tuples' x) v u) Q E s := by
  obtain ⟨a, xs, rfl, ⟨o, go, _, n, dat⟩, i⟩ := hv
  obtain ⟨b, ys, rfl, ⟨o', go', _, n', dat'⟩, i'⟩ := hu
  refine PySem.W.kat_lt go dat go' dat' (lex_walk 0 i i' ?_ q)
  rw [size_ints i, size_ints i']
theorem lt_oneType {v u : Value} {ns ms : List Int} {Q : Bool → Shared → Prop} (room : A.units < cLine) (hv : TS.TupInts s.heap v ns) (hu : TS.TupInts s.heap u ms) (q : Q (HT.lexLt ns ms) s) : wpAny (model prog w) A (keyLt' oneType' v u) Q E s := by
  obtain ⟨a, xs, rfl, ⟨⟨cls, dd, data, sl⟩, go, ec, n, ed⟩, i⟩ := hv
  obtain ⟨b, ys, rfl, ⟨⟨cls', dd', data', sl'⟩, go', ec', n', ed'⟩, i'⟩ := hu
  simp only at ec ed ec' ed'
  subst ec ed ec' ed'
  rw [keyLt'_oneType, oneLt'_eq]
  simp only [if_true]
  refine wpAny_bind (wpAny_cRoomFor room ?_)
  refine wpAny_bind (wpAny_callSpecialIfBound?_slot (T := "tuple") ⟨_, go, rfl⟩ PySem.F.slot_tuple_lt ?_)
  refine call_meets PySem.F.slot_tuple_lt ⟨_, go, rfl⟩ PySem.F.entry_tuple_lt (PySem.F.args_tuple_lt_2 _ _) (HT.tuple_lt_ints a b xs ys n n' dd dd' sl sl' ns ms i i') ⟨go, go', ?_⟩
  exact wpAny_truthy_bool q
theorem lt_general {v u : Value} {ns ms : List Int} {Q : Bool → Shared → Prop} (room : A.units < cLine) (hv : TS.TupInts s.heap v ns) (hu : TS.TupInts s.heap u ms) (q : Q (HT.lexLt ns ms) s) : wpAny (model prog w) A (keyLt' general' v u) Q E s := by
  obtain ⟨a, xs, rfl, t, i⟩ := hv
  obtain ⟨b, ys, rfl, t', i'⟩ := hu
  exact PySem.W.kat_one _ _ (HT.lt_tupInts (Q := PySem.W.BoolBack Q) t t' i i' room q)
/-- what is looked at first: the tuples' own firsts -/
theorem firsts_any : ∀ {vs : List Value}, (∀ v ∈ vs, ∃ ns, TS.TupInts s.heap v ns) → ∃ rs : List (Option Value), rs.length = vs.length ∧ (∀ (i : Nat) (v : Value) (ns : List Int), vs[i]? = some v → TS.TupInts s.heap v ns → ns = [] → rs[i]? = some none) ∧
    ∀ (Q : List (Option Value) → Shared → Prop) (E : Value → Shared → Prop), Q rs s → wpAny (model prog w) A (vs.mapM firstOfTuple') Q E s
  | [], _ => ⟨[], rfl, fun i v ns h => (by simp at h), fun Q E q => by rw [List.mapM_nil]; exact wpAny_pure q⟩
  | v :: vs, h => by
    obtain ⟨rs, l, e, g⟩ := firsts_any (vs := vs) fun u m => h u (List.mem_cons_of_mem _ m)
    obtain ⟨ns, T⟩ := h v List.mem_cons_self
    obtain ⟨a, xs, rfl, ⟨o, go, ec, n, ed⟩, i⟩ := id T
    refine ⟨xs[0]? :: rs, by rw [List.length_cons, List.length_cons, l], fun k u ms hu hm em => ?_, fun Q E q => ?_⟩
    · cases k with
      | zero =>
        obtain rfl : Value.ref a = u := Option.some.inj hu
        have es : ns = ms := T.ints.symm.trans hm.ints
        subst es
        subst em
        have z := size_ints i
        show some xs[0]? = some none
        rw [Array.getElem?_eq_none (by rw [z]; exact Nat.le_refl _)]
      | succ k => exact e k u ms hu hm em
    · rw [List.mapM_cons]
      refine wpAny_bind ?_
      rw [PySem.W.kas_first_eq]
      refine wpAny_bind (PySem.W.Looks.here (show PySem.W.Looks (model prog w) s.heap (typeOf (.ref a)) o.cls from (PySem.W.Looks.ld go).andThen .now) ?_)
      rw [ec, if_neg (by first | decide | simp)]
      refine wpAny_bind (listItems_at go ed (wpAny_pure ?_))
      exact wpAny_bind (g (fun bs s' => wpAny (model prog w) A (pure (xs[0]? :: bs)) Q E s') E (wpAny_pure q))
theorem type_tuple {v : Value} {ns : List Int} {M : Model} (T : TS.TupInts s.heap v ns) : PySem.W.Looks M s.heap (typeOf v) (.type "tuple") := by
  obtain ⟨a, xs, rfl, ⟨o, go, ec, n, ed⟩, i⟩ := T
  rw [← ec]
  exact (PySem.W.Looks.ld go).andThen .now
/-- some tuple is empty: the kind is that of one type, or of any -/
theorem kind_some_empty {vs : List Value} (h2 : 2 ≤ vs.length) (h : ∀ v ∈ vs, ∃ ns, TS.TupInts s.heap v ns) {v0 : Value} (m0 : v0 ∈ vs) (t0 : TS.TupInts s.heap v0 []) : ∃ κ, (κ = oneType' ∨ κ = general') ∧
    ∀ (Q : SortKind → Shared → Prop) (E : Value → Shared → Prop), Q κ s → wpAny (model prog w) A (keyKind' vs.toArray) Q E s := by
  obtain ⟨rs, l, e, g⟩ := firsts_any (prog := prog) (w := w) (A := A) h
  obtain ⟨i, hi⟩ := List.getElem?_of_mem m0
  have none_ : ¬ (rs.toArray.all fun x => x.isSome) = true := fun all => by
    rw [List.all_toArray, List.all_eq_true] at all
    have z := all none (List.mem_of_getElem? (e i v0 [] hi t0 rfl))
    cases z
  by_cases hd : (rs.toArray[0]?.bind id).isSome = true
  · refine ⟨general', .inr rfl, fun Q E q => ?_⟩
    rw [keyKind'_eq, List.mapM_toArray, map_eq_pure_bind]
    refine wpAny_bind (wpAny_bind (g _ E (wpAny_pure ?_)))
    rw [if_neg none_, if_pos hd]
    exact wpAny_pure q
  · refine ⟨oneType', .inl rfl, fun Q E q => ?_⟩
    rw [keyKind'_eq, List.mapM_toArray, map_eq_pure_bind]
    refine wpAny_bind (wpAny_bind (g _ E (wpAny_pure ?_)))
    rw [if_neg none_, if_neg hd]
    rw [oneTypeOnly'_eq, List.mapM_toArray, map_eq_pure_bind]
    refine wpAny_bind (wpAny_bind (wpAny_bind (PySem.W.kas_mapM (r := Value.type "tuple") _ (fun v hv Q' hq => by
      obtain ⟨ns, T⟩ := h v hv
      exact (type_tuple T).here hq) (wpAny_pure ?_))))
    have all : ((List.map (fun _ => Value.type "tuple") vs).toArray.all fun x => x == Value.type "tuple") = true := by
      rw [List.all_toArray, List.all_map, List.all_eq_true]
      intro _ _
      exact beq_self_eq_true _
    have first : (List.map (fun _ => Value.type "tuple") vs).toArray[0]? = some (Value.type "tuple") := by
      cases vs with
      | nil => exact absurd h2 (by decide)
      | cons v vs => rfl
    rw [first]
    simp only [all, if_true]
    exact wpAny_pure (wpAny_pure q)
theorem firsts_full {h : Heap} : ∀ {vs : List Value}, (∀ v ∈ vs, ∃ n ns, TS.TupInts h v (n :: ns)) → ∃ fs : List Value, PySem.W.KatTups h vs fs ∧ fs.length = vs.length ∧ ∀ f ∈ fs, ∃ x t, f = Value.int x t
  | [], _ => ⟨[], .nil, rfl, nofun⟩
  | v :: vs, hv => by
    obtain ⟨fs, k, l, z⟩ := firsts_full (vs := vs) fun u m => hv u (List.mem_cons_of_mem _ m)
    obtain ⟨n, ns, a, xs, rfl, ⟨o, go, ec, c, ed⟩, i⟩ := hv v List.mem_cons_self
    generalize er : xs.toList = r at i
    cases i with
    | cons _ t i' =>
      rename_i us
      have at0 : xs[0]? = some (Value.int n t) := by rw [← Array.getElem?_toList, er] <;> rfl
      refine ⟨Value.int n t :: fs, .cons go ec ed at0 k, by rw [List.length_cons, List.length_cons, l], fun f hf => ?_⟩
      rcases List.mem_cons.mp hf with e | hf
      · exact ⟨n, t, e⟩
      · exact z f hf
theorem tuples_sortable {a : Addr} {vs : List Value} {k : Value → List Int} (room : A.units < cLine) (h2 : 2 ≤ vs.length) (hv : ∀ v ∈ vs, TS.TupInts s.heap v (k v)) (ha : ∀ o, s.heap.get? a = some o → o.cls ≠ .type "tuple") :
    SortableO prog w A s a vs fun v u => HT.lexLt (k v) (k u) := by
  intro h' keep
  have hv' : ∀ v ∈ vs, TS.TupInts h' v (k v) := fun v m => (hv v m).keeps fun b o e c => keep b o (fun z => by subst z; exact ha o e c) e
  by_cases full : ∀ v ∈ vs, k v ≠ []
  · obtain ⟨fs, t, l, z⟩ := firsts_full (h := h') (vs := vs) fun v m => by
      cases e : k v with
      | nil => exact absurd e (full v m)
      | cons n ns => exact ⟨n, ns, e ▸ hv' v m⟩
    refine ⟨tuples' true, fun Q E q => ?_, fun p r hp hr => lt_tuples (hv' _ hp) (hv' _ hr) ⟨rfl, rfl⟩⟩
    refine PySem.W.kat_kind (T := .type "int") t (by omega) (fun f hm => ?_) (by rfl) ?_
    · obtain ⟨x, u, rfl⟩ := z f hm
      exact PySem.W.Looks.now
    · rw [show (Value.type "int" != Value.type "tuple") = true from by first | decide +kernel | rfl | decide]
      exact q
  · obtain ⟨v0, m0, e0⟩ : ∃ v ∈ vs, k v = [] := by
      refine Classical.byContradiction fun no => full fun v m e => no ⟨v, m, e⟩
    obtain ⟨κ, hκ, kind⟩ := kind_some_empty (prog := prog) (w := w) (A := A) (s := { s with heap := h' }) h2 (fun v m => ⟨_, hv' v m⟩) m0 (e0 ▸ hv' v0 m0)
    refine ⟨κ, kind, fun p r hp hr => ?_⟩
    rcases hκ with rfl | rfl
    · exact lt_oneType room (hv' _ hp) (hv' _ hr) ⟨rfl, rfl⟩
    · exact lt_general room (hv' _ hp) (hv' _ hr) ⟨rfl, rfl⟩
end
end TI
namespace Xci
open PySem PySem.Spec PyProof.Rows L2
/-- sorted(xs), xs a list of tuples of ints (k says which), of whatever lengths -/
def rSortedTI (K : PySem.W.Frag) : List V → Hp → VK → Prop := fun vs H Q => ∃ (a : Addr) (xs : List V) (k : V → List Int), vs = [V.ref a] ∧ SqL K H a xs ∧ (∀ x ∈ xs, ∃ t, x = V.ref t ∧ H t = some (.tup ((k x).map V.int))) ∧
  ∀ ys p, ys.Pairwise (fun x y => HT.lexLt (k y) (k x) = false) → ys.Perm xs → H p = none → Q (.ref p) (upd H p (.lst ys))
theorem cr_sortedTI {X : Cx} (room : X.A.units + 64 < cLine) : CallR X (.builtin "sorted") (rSortedTI X.K) := by
  intro pins s σ H vs us Q I r h
  obtain ⟨a, xs, k, rfl, hs, hx, q⟩ := h
  obtain ⟨its, rv, hl, hz⟩ := I.list hs
  rw [Vals.ref1 r]
  obtain ⟨e1, e2⟩ := refs_back rv fun x m => by
    obtain ⟨t, e, _⟩ := hx x m
    exact ⟨t, e⟩
  have told : ∀ v ∈ its, TS.TupInts s.heap v (k (backV v)) := fun v hv => by
    obtain ⟨t, rfl⟩ := e2 v hv
    obtain ⟨t', e, ht⟩ := hx (V.ref t) (by rw [e1]; exact List.mem_map.mpr ⟨_, hv, rfl⟩)
    cases e
    obtain ⟨_, is, ri, at_⟩ := I.hok _ _ ht
    exact ⟨t, is.toArray, rfl, at_, Vals.ints ri⟩
  refine SrtO.sorted_ord (NtL.swo_lexL fun v => k (backV v)) hl.isList (by rw [← rv.length]; exact hz) (fun h2 h₁ a' at_ kk => ?_) fun out h1 h2 => ?_
  · refine TI.tuples_sortable (s := { s with heap := h₁ }) (by have e : X.A.in1.in1.units = X.A.units + 1 + 1 := rfl; omega) h2 (fun v hv => (told v hv).keeps fun b o e _ => (kk b o e).2) fun o e => ?_
    have e' : some o = some (seqObj "list" its.toArray 0) := e.symm.trans at_
    cases e'
    exact fun c => absurd (Value.type.inj c) (by decide)
  · have refs : ∀ u ∈ out, ∃ a, u = Value.ref a := fun u hu => e2 u (h2.perm.mem_iff.mp hu)
    obtain ⟨n, hn⟩ := sortedAll_at s.heap its out.toArray
    have perm : (out.map backV).Perm xs := by rw [e1]; exact h2.perm.map backV
    refine ⟨.ref _, upd H (s.heap.objs.size + 1) (.lst (out.map backV)), I.laid (t' := s.toks) (fun _ _ => sortedAll_old) (Nat.le_succ _) ⟨by rw [perm.length_eq]; exact hz, out, n, vals_back refs, hn⟩, rfl, q _ _ (List.pairwise_map.mpr h1) perm (I.hok.fresh (Nat.le_succ _))⟩
end Xci

namespace Xci
open PySem L2
/-! ### holding: quarrels are of two at least; a book with an entry of just these marks ahead -/
theorem inside_mem {ms ns : List Int} (h : inside ms ns = true) : ∀ m ∈ ms, m ∈ ns := fun m hm => of_decide_eq_true (List.all_eq_true.mp h m hm)
theorem inside_of {ms ns : List Int} (h : ∀ m ∈ ms, m ∈ ns) : inside ms ns = true := List.all_eq_true.mpr fun m hm => decide_eq_true (h m hm)
theorem within_eq (ws : List Int) (ms ns : List Int) : beatM "within" ws ms ns = (inside ns ms && decide (ns.length < ms.length)) := if_pos rfl
theorem within_trans {ws : List Int} {es : List Ent} {a b c : Nat} (h1 : beatA "within" ws es a b = true) (h2 : beatA "within" ws es b c = true) : beatA "within" ws es a c = true := by
  unfold beatA at h1 h2 ⊢
  rw [within_eq, Bool.and_eq_true, decide_eq_true_iff] at h1 h2 ⊢
  exact ⟨inside_of fun m hm => inside_mem h1.1 m (inside_mem h2.1 m hm), by omega⟩
theorem within_len {ws : List Int} {es : List Ent} {a b : Nat} (h : beatA "within" ws es a b = true) : (mkA es b).length < (mkA es a).length := by
  unfold beatA at h
  rw [within_eq, Bool.and_eq_true, decide_eq_true_iff] at h
  exact h.2
theorem some_max {ws : List Int} {es : List Ent} {js : List Nat} (hb : ∀ j ∈ js, (mkA es j).length ≤ 6) : ∀ (n j : Nat), j ∈ js → 6 - (mkA es j).length ≤ n → ∃ m ∈ js.filter (maxB js (beatA "within" ws es)), m = j ∨ beatA "within" ws es m j = true := by
  intro n
  induction n with
  | zero =>
    intro j hj hn
    refine ⟨j, List.mem_filter.mpr ⟨hj, ?_⟩, .inl rfl⟩
    unfold maxB
    rw [Bool.not_eq_true', List.any_eq_false]
    intro o ho q
    have := within_len q
    have := hb o ho
    omega
  | succ n ih =>
    intro j hj hn
    by_cases q : maxB js (beatA "within" ws es) j = true
    · exact ⟨j, List.mem_filter.mpr ⟨hj, q⟩, .inl rfl⟩
    · unfold maxB at q
      rw [Bool.not_eq_true', List.any_eq_false] at q
      have : ∃ o ∈ js, beatA "within" ws es o j = true := by
        by_cases e : ∃ o ∈ js, beatA "within" ws es o j = true
        · exact e
        · exact absurd (fun o ho z => e ⟨o, ho, z⟩) q
      obtain ⟨o, ho, z⟩ := this
      have hl := within_len z
      obtain ⟨m, hm, hmo⟩ := ih o ho (by omega)
      refine ⟨m, hm, .inr ?_⟩
      rcases hmo with e | e
      · rw [e]; exact z
      · exact within_trans e z
theorem qua_two {ws : List Int} {es : List Ent} {js : List Nat} (hn : js.Nodup) (hb : ∀ j ∈ js, (mkA es j).length ≤ 6) {l : List Nat} (e : lawRes js (beatA "within" ws es) = .qua l) : 2 ≤ l.length := by
  rcases lawRes_cases (beatA_ok "within" ws es) hn with ⟨_, r⟩ | ⟨n, _, r⟩ | ⟨hne, hw, r⟩
  · rw [r] at e; cases e
  · rw [r] at e; cases e
  · rw [r] at e
    obtain rfl := Res.qua.inj e
    obtain ⟨j, hj⟩ : ∃ j, j ∈ js := by
      cases js with
      | nil => exact absurd rfl hne
      | cons j r => exact ⟨j, by simp⟩
    have sm := fun o ho => some_max (ws := ws) hb 6 o ho (by omega)
    match hl : js.filter (maxB js (beatA "within" ws es)) with
    | [] =>
      obtain ⟨m, hm, _⟩ := sm j hj
      rw [hl] at hm
      cases hm
    | [m] =>
      refine absurd ⟨?_, fun o ho hne => ?_⟩ (hw m)
      · have : m ∈ js.filter (maxB js (beatA "within" ws es)) := by rw [hl]; simp
        exact (List.mem_filter.mp this).1
      · obtain ⟨k, hk, z⟩ := sm o ho
        rw [hl] at hk
        have : k = m := List.mem_singleton.mp hk
        subst this
        rcases z with z | z
        · exact absurd z.symm hne
        · exact z
    | x :: y :: r => simp
theorem asc_sub_len : ∀ {b a : List Int}, b.Pairwise (· < ·) → a.Pairwise (· < ·) → (∀ x ∈ a, x ∈ b) → a.length ≤ b.length
  | [], [], _, _, _ => Nat.le_refl _
  | [], x :: r, _, _, h => absurd (h x (by simp)) (by simp)
  | y :: t, [], _, _, _ => Nat.zero_le _
  | y :: t, x :: r, hb, ha, h => by
    obtain ⟨b1, b2⟩ := List.pairwise_cons.mp hb
    obtain ⟨a1, a2⟩ := List.pairwise_cons.mp ha
    by_cases e : x = y
    · subst e
      have := asc_sub_len (b := t) (a := r) b2 a2 fun k hk => by
        rcases List.mem_cons.mp (h k (List.mem_cons_of_mem _ hk)) with q | q
        · have := a1 k hk; omega
        · exact q
      simp only [List.length_cons]
      omega
    · have hx : x ∈ t := by
        rcases List.mem_cons.mp (h x (by simp)) with q | q
        · exact absurd q e
        · exact q
      have := b1 x hx
      have := asc_sub_len (b := t) (a := x :: r) b2 ha fun k hk => by
        rcases List.mem_cons.mp (h k hk) with q | q
        · rcases List.mem_cons.mp hk with q2 | q2
          · omega
          · have := a1 k q2; omega
        · exact q
      simp only [List.length_cons] at this ⊢
      omega
theorem asc_sub_eq : ∀ {b a : List Int}, b.Pairwise (· < ·) → a.Pairwise (· < ·) → (∀ x ∈ a, x ∈ b) → a.length = b.length → a = b
  | [], [], _, _, _, _ => rfl
  | [], x :: r, _, _, h, _ => absurd (h x (by simp)) (by simp)
  | y :: t, [], _, _, _, e => by simp at e
  | y :: t, x :: r, hb, ha, h, el => by
    obtain ⟨b1, b2⟩ := List.pairwise_cons.mp hb
    obtain ⟨a1, a2⟩ := List.pairwise_cons.mp ha
    by_cases e : x = y
    · subst e
      rw [asc_sub_eq (b := t) (a := r) b2 a2 (fun k hk => by
        rcases List.mem_cons.mp (h k (List.mem_cons_of_mem _ hk)) with q | q
        · have := a1 k hk; omega
        · exact q) (by simpa using el)]
    · have hx : x ∈ t := by
        rcases List.mem_cons.mp (h x (by simp)) with q | q
        · exact absurd q e
        · exact q
      have := b1 x hx
      have := asc_sub_len (b := t) (a := x :: r) b2 ha fun k hk => by
        rcases List.mem_cons.mp (h k hk) with q | q
        · rcases List.mem_cons.mp hk with q2 | q2
          · omega
          · have := a1 k q2; omega
        · exact q
      simp only [List.length_cons] at this el
      omega
theorem inside_len {ms ns : List Int} (h : inside ms ns = true) (hm : MarksOk 6 ms) (hn : MarksOk 6 ns) : ms.length ≤ ns.length := asc_sub_len hn.up hm.up (inside_mem h)
theorem inside_eq {ms ns : List Int} (h : inside ms ns = true) (hm : MarksOk 6 ms) (hn : MarksOk 6 ns) (e : ms.length = ns.length) : ms = ns := asc_sub_eq hn.up hm.up (inside_mem h) e
theorem inside_refl (ms : List Int) : inside ms ms = true := inside_of fun _ h => h
/-- the entries with just these marks -/
def sameN (es : List Ent) (ms : List Int) : List Nat := (List.range es.length).filter fun n => decide (mkA es n = ms)
theorem mkA_cons (e : Ent) (es : List Ent) (n : Nat) : mkA (e :: es) (n + 1) = mkA es n := rfl
theorem mkA_zero (e : Ent) (es : List Ent) : mkA (e :: es) 0 = e.1 := rfl
theorem fit_mk {es : List Ent} {ms : List Int} {n : Nat} (h : n ∈ fitN es ms) : inside (mkA es n) ms = true := by
  obtain ⟨a, b⟩ := List.mem_filter.mp h
  have hn := List.mem_range.mp a
  unfold fitP at b
  unfold mkA
  rw [List.getElem?_eq_getElem hn] at b ⊢
  exact b
theorem whole_res {es : List Ent} {ms : List Int} {z : Str} (eok : ∀ e ∈ es, EntOk e) (mok : MarksOk 6 ms) :
    lawRes (fitN ((ms, z) :: es) ms) (beatA "within" [] ((ms, z) :: es)) = if sameN es ms = [] then .ent 0 else .qua (0 :: (sameN es ms).map (· + 1)) := by
  have ef : fitN ((ms, z) :: es) ms = 0 :: (fitN es ms).map (· + 1) := by
    rw [fit_cons, if_pos (inside_refl ms)]
    rfl
  have nd := fit_nd ((ms, z) :: es) ms
  have b0 : ∀ n ∈ fitN es ms, beatA "within" [] ((ms, z) :: es) 0 (n + 1) = !decide (mkA es n = ms) := fun n hn => by
    unfold beatA
    rw [within_eq, mkA_cons, mkA_zero, fit_mk hn, Bool.true_and]
    have l := inside_len (fit_mk hn) (mkA_ok eok n) mok
    by_cases e : mkA es n = ms
    · rw [e]
      simp
    · have : ¬ (mkA es n).length = ms.length := fun q => e (inside_eq (fit_mk hn) (mkA_ok eok n) mok q)
      have : (mkA es n).length < ms.length := by omega
      simp [e, this]
  have bn : ∀ n ∈ fitN es ms, ∀ k, (mkA ((ms, z) :: es) k).length = ms.length → beatA "within" [] ((ms, z) :: es) (n + 1) k = false := fun n hn k hk => by
    unfold beatA
    rw [within_eq, mkA_cons]
    have l := inside_len (fit_mk hn) (mkA_ok eok n) mok
    have : decide ((mkA ((ms, z) :: es) k).length < (mkA es n).length) = false := decide_eq_false (by omega)
    rw [this, Bool.and_false]
  have esame : sameN es ms = (fitN es ms).filter fun n => decide (mkA es n = ms) := by
    unfold sameN fitN
    rw [List.filter_filter]
    refine List.filter_congr fun n hn => ?_
    by_cases e : mkA es n = ms
    · have hl := List.mem_range.mp hn
      have : fitP es ms n = true := by
        unfold fitP
        unfold mkA at e
        rw [List.getElem?_eq_getElem hl] at e ⊢
        have e : es[n].1 = ms := e
        show inside es[n].1 ms = true
        rw [e]
        exact inside_refl ms
      simp [e, this]
    · simp [e]
  by_cases hs : sameN es ms = []
  · rw [if_pos hs]
    refine lawRes_ent (beatA_ok _ _ _) nd ⟨by rw [ef]; simp, fun o ho hne => ?_⟩
    rw [ef] at ho
    rcases List.mem_cons.mp ho with q | q
    · exact absurd q hne
    · obtain ⟨n, hn, rfl⟩ := List.mem_map.mp q
      rw [b0 n hn]
      have : ¬ mkA es n = ms := fun e => by
        have : n ∈ sameN es ms := by
          rw [esame]
          exact List.mem_filter.mpr ⟨hn, decide_eq_true e⟩
        rw [hs] at this
        cases this
      simp [this]
  · rw [if_neg hs]
    have self : ∀ k, (mkA ((ms, z) :: es) k).length = ms.length → beatA "within" [] ((ms, z) :: es) 0 k = false := fun k hk => by
      unfold beatA
      rw [within_eq, mkA_zero]
      have : decide ((mkA ((ms, z) :: es) k).length < ms.length) = false := decide_eq_false (by omega)
      rw [this, Bool.and_false]
    obtain ⟨s, hs1⟩ : ∃ s, s ∈ sameN es ms := by
      cases h : sameN es ms with
      | nil => exact absurd h hs
      | cons a b => exact ⟨a, by simp⟩
    have hs2 := hs1
    rw [esame] at hs2
    obtain ⟨s1, s2⟩ := List.mem_filter.mp hs2
    have s2 := of_decide_eq_true s2
    rw [lawRes_qua (beatA_ok _ _ _) nd (by rw [ef]; simp) fun n hw => ?_]
    · congr 1
      rw [ef, List.filter_cons]
      have m0 : maxB (0 :: (fitN es ms).map (· + 1)) (beatA "within" [] ((ms, z) :: es)) 0 = true := by
        unfold maxB
        rw [Bool.not_eq_true', List.any_eq_false]
        intro o ho
        rcases List.mem_cons.mp ho with q | q
        · subst q
          rw [self 0 rfl]
          exact Bool.false_ne_true
        · obtain ⟨n, hn, rfl⟩ := List.mem_map.mp q
          rw [bn n hn 0 rfl]
          exact Bool.false_ne_true
      rw [if_pos m0]
      congr 1
      rw [List.filter_map, esame]
      congr 1
      refine List.filter_congr fun n hn => ?_
      show maxB _ _ (n + 1) = _
      unfold maxB
      by_cases e : mkA es n = ms
      · rw [decide_eq_true e, Bool.not_eq_true', List.any_eq_false]
        intro o ho
        have hk : (mkA ((ms, z) :: es) (n + 1)).length = ms.length := by rw [mkA_cons, e]
        rcases List.mem_cons.mp ho with q | q
        · subst q
          rw [self _ hk]
          exact Bool.false_ne_true
        · obtain ⟨k, hk2, rfl⟩ := List.mem_map.mp q
          rw [bn k hk2 _ hk]
          exact Bool.false_ne_true
      · rw [decide_eq_false e, Bool.not_eq_false', List.any_eq_true]
        exact ⟨0, by simp, by rw [b0 n hn]; simp [e]⟩
    · have hn0 := hw.1
      rw [ef] at hn0
      rcases List.mem_cons.mp hn0 with q | q
      · subst q
        have := hw.2 (s + 1) (by rw [ef]; exact List.mem_cons_of_mem _ (List.mem_map_of_mem s1)) (by omega)
        rw [self _ (by rw [mkA_cons, s2])] at this
        cases this
      · obtain ⟨k, hk, rfl⟩ := List.mem_map.mp q
        have := hw.2 0 (by rw [ef]; simp) (by omega)
        rw [bn k hk 0 rfl] at this
        cases this
theorem eqvAll_ints : ∀ (a b : List Int), PyData.eqvAll (a.map PyData.int) (b.map PyData.int) = decide (a = b)
  | [], [] => rfl
  | [], y :: t => by simp [PyData.eqvAll]
  | x :: r, [] => by simp [PyData.eqvAll]
  | x :: r, y :: t => by
    have ih := eqvAll_ints r t
    rw [List.map_cons, List.map_cons]
    simp only [PyData.eqvAll, PyData.eqv]
    rw [ih, Bool.eq_iff_iff]
    simp
theorem dp_marks {K : PySem.W.Frag} {H : Hp} {v : V} {ms : List Int} (h : Xci.Mk H v ms) : Dp K H v (.tuple (ms.map PyData.int)) := by
  have q := dp_tup (K := K) h (flat0_ints ms)
  rw [toD_ints] at q
  exact q
theorem sh_marks (ns : List Int) : SeqAt.shaped (.tuple (ns.map PyData.int)) = true := by
  obtain ⟨a, b⟩ := lay_ints ns
  simp [SeqAt.shaped, PyData.canLay0, PyData.depth, a, b]
end Xci

namespace Xci
open PySem L2
/-! ### sorted tuples of ints; the cells of one form -/
def leC (c d : List Int) : Prop := HT.lexLt d c = false
theorem lex_eq : ∀ xs ys : List Int, HT.lexLt xs ys = false → HT.lexLt ys xs = false → xs = ys
  | [], [], _, _ => rfl
  | [], y :: ys, h, _ => by rw [HT.lexLt_nil_cons] at h; cases h
  | x :: xs, [], _, h => by rw [HT.lexLt_nil_cons] at h; cases h
  | x :: xs, y :: ys, h, k => by
    rw [HT.lexLt_cons] at h k
    by_cases e : x = y
    · subst e
      rw [if_pos rfl] at h k
      rw [lex_eq xs ys h k]
    · rw [if_neg e] at h
      rw [if_neg (fun q => e q.symm)] at k
      have a := of_decide_eq_false h
      have b := of_decide_eq_false k
      omega
theorem sortedU {cs ds : List (List Int)} (h : cs.Pairwise leC) (k : ds.Pairwise leC) (p : cs.Perm ds) : cs = ds :=
  List.Perm.eq_of_pairwise (le := leC) (fun a b _ _ x y => lex_eq a b y x) h k p
def unInt : V → Int
  | .int i => i
  | _ => 0
theorem unInts (ns : List Int) : (ns.map V.int).map unInt = ns := by
  rw [List.map_map]
  exact (List.map_congr_left fun _ _ => rfl).trans (List.map_id ns)
/-- the ints of the tuple at x -/
def kOf (H : Hp) : V → List Int
  | .ref t => match H t with
    | some (.tup vs) => vs.map unInt
    | _ => []
  | _ => []
theorem kOf_mk {H : Hp} {x : V} {c : List Int} (m : Xci.Mk H x c) : kOf H x = c := by
  obtain ⟨t, rfl, h⟩ := m
  show (match H t with
    | some (.tup vs) => vs.map unInt
    | _ => []) = c
  rw [h]
  exact unInts c
theorem mks_kOf {H : Hp} : ∀ {xs : List V} {cs : List (List Int)}, Mks H xs cs → xs.map (kOf H) = cs
  | _, _, .nil => rfl
  | _, _, .cons m r => by rw [List.map_cons, kOf_mk m, mks_kOf r]
/-- sorted(xs) of tuples with the contents cs -/
theorem sorted_rows {K : PySem.W.Frag} {H : Hp} {Q : VK} {a : Addr} {xs : List V} {cs : List (List Int)} (hs : SqL K H a xs) (m : Mks H xs cs)
    (G : ∀ (ys : List V) (ds : List (List Int)) (p : Addr), Mks H ys ds → ds.Pairwise leC → ds.Perm cs → H p = none → Q (.ref p) (upd H p (.lst ys))) : rSortedTI K [.ref a] H Q := by
  refine ⟨a, xs, kOf H, rfl, hs, fun x hx => ?_, fun ys p up perm free => ?_⟩
  · obtain ⟨i, hi⟩ := List.getElem?_of_mem hx
    obtain ⟨c, _, t, e, h⟩ := Paired.get m hi
    refine ⟨t, e, ?_⟩
    rw [kOf_mk ⟨t, e, h⟩]
    exact h
  · obtain ⟨ds, md, pd⟩ := Paired.perm perm m
    refine G ys ds p md ?_ pd free
    rw [← mks_kOf md, List.pairwise_map]
    exact up
theorem lay_rows : ∀ (cs : List (List Int)), PyData.canLayAll0 (cs.map fun c => PyData.tuple (c.map PyData.int)) = true ∧ PyData.depthAll (cs.map fun c => PyData.tuple (c.map PyData.int)) ≤ 1
  | [] => ⟨rfl, Nat.zero_le _⟩
  | c :: cs => by
    obtain ⟨a, b⟩ := lay_rows cs
    obtain ⟨d, e⟩ := lay_ints c
    rw [List.map_cons]
    refine ⟨by simp [PyData.canLayAll0, PyData.canLay0, a, d], ?_⟩
    rw [PyData.depthAll]
    refine Nat.max_le.mpr ⟨?_, b⟩
    simp [PyData.depth, e]
theorem sh_rows (cs : List (List Int)) : SeqAt.shaped (.list (cs.map fun c => PyData.tuple (c.map PyData.int))) = true := by
  obtain ⟨a, b⟩ := lay_rows cs
  have d : PyData.depth (.list (cs.map fun c => PyData.tuple (c.map PyData.int))) ≤ 64 := by
    simp only [PyData.depth]
    omega
  unfold SeqAt.shaped
  rw [decide_eq_true d, Bool.and_true]
  simpa [PyData.canLay0] using a
theorem dp_rows {K : PySem.W.Frag} {H : Hp} : ∀ {ys : List V} {cs : List (List Int)}, Mks H ys cs → DpAll K H ys (cs.map fun c => PyData.tuple (c.map PyData.int))
  | _, _, .nil => .nil
  | _, _, .cons m r => .cons (dp_marks m) (dp_rows r)
/-- u != v of two lists of the same tuples of ints: no -/
theorem ne_rows {K : PySem.W.Frag} {H : Hp} {a b : Addr} {xs ys : List V} {cs : List (List Int)} {Q : V → Hp → Prop} (ha : H a = some (.lst xs)) (hb : H b = some (.lst ys)) (ma : Mks H xs cs) (mb : Mks H ys cs) (q : Q (.bl false) H) : rNeD K (.ref a) (.ref b) H Q := by
  refine ⟨_, _, .lst (SqL.of ha) (dp_rows ma), .lst (SqL.of hb) (dp_rows mb), sh_rows cs, sh_rows cs, ?_⟩
  rw [eqv_same (sh_rows cs)]
  exact q
/-- the cells of each form, told in order -/
structure Sm (fs : List (Option Str)) (cs : List (List Int)) : Prop where
  up : cs.Pairwise leC
  of : ∃ zs : List Str, zs.Nodup ∧ (∀ z, z ∈ zs ↔ some z ∈ fs) ∧ cs.Perm (zs.map fun z => nat2 (spots fs z))
theorem Sm.one {fs : List (Option Str)} {cs ds : List (List Int)} (h : Sm fs cs) (k : Sm fs ds) : cs = ds := by
  obtain ⟨zs, n, a, p⟩ := h.of
  obtain ⟨ys, m, b, q⟩ := k.of
  have e : zs.Perm ys := (List.perm_ext_iff_of_nodup n m).mpr fun z => (a z).trans (b z).symm
  exact sortedU h.up k.up (p.trans ((e.map _).trans q.symm))
theorem Sm.few {fs : List (Option Str)} {cs : List (List Int)} (h : Sm fs cs) : cs.length ≤ fs.length := by
  obtain ⟨zs, n, a, p⟩ := h.of
  rw [p.length_eq, List.length_map]
  have q : (zs.map some).length ≤ fs.length := List.Nodup.length_le_of_subset (by
    unfold List.Nodup
    rw [List.pairwise_map]
    exact n.imp fun h e => h (Option.some.inj e)) fun x hx => by
      obtain ⟨z, hz, rfl⟩ := List.mem_map.mp hx
      exact (a z).mp hz
  rwa [List.length_map] at q
theorem Sm.each {fs : List (Option Str)} {cs : List (List Int)} (h : Sm fs cs) {c : List Int} (m : c ∈ cs) : ∃ z, some z ∈ fs ∧ c = nat2 (spots fs z) := by
  obtain ⟨zs, n, a, p⟩ := h.of
  obtain ⟨z, hz, e⟩ := List.mem_map.mp (p.subset m)
  exact ⟨z, (a z).mp hz, e.symm⟩
/-- under other names -/
theorem Sm.ren {fs : List (Option Str)} {cs : List (List Int)} (h : Sm fs cs) (ren : Str → Str) (inj : ∀ x y, some x ∈ fs → some y ∈ fs → ren x = ren y → x = y) : Sm (fs.map (Option.map ren)) cs := by
  obtain ⟨zs, n, a, p⟩ := h.of
  have sp : ∀ z, some z ∈ fs → spots (fs.map (Option.map ren)) (ren z) = spots fs z := fun z hz => by
    unfold spots
    rw [List.length_map]
    refine List.filter_congr fun i hi => ?_
    rw [decide_eq_decide, List.getElem?_map]
    cases e : fs[i]? with
    | none => simp
    | some f =>
      cases f with
      | none => simp
      | some y =>
        have my : some y ∈ fs := List.mem_of_getElem? e
        constructor
        · intro q
          have q' : ren y = ren z := Option.some.inj (Option.some.inj q)
          rw [inj y z my hz q']
        · intro q
          have q' : y = z := Option.some.inj (Option.some.inj q)
          rw [q'] <;> rfl
  refine ⟨h.up, zs.map ren, ?_, fun z => ?_, ?_⟩
  · unfold List.Nodup
    rw [List.pairwise_map]
    refine List.Pairwise.imp_of_mem (fun {x y} hx hy ne e => ne (inj x y ((a x).mp hx) ((a y).mp hy) e)) n
  · rw [List.mem_map, List.mem_map]
    constructor
    · rintro ⟨y, hy, rfl⟩
      exact ⟨some y, (a y).mp hy, rfl⟩
    · rintro ⟨f, hf, e⟩
      cases f with
      | none => cases e
      | some y => exact ⟨y, (a y).mpr hf, Option.some.inj e⟩
  · rw [List.map_map]
    refine p.trans (List.Perm.of_eq (List.map_congr_left fun z hz => ?_))
    show _ = nat2 (spots (fs.map (Option.map ren)) (ren z))
    rw [sp z ((a z).mp hz)]
/-- one form in the place of another -/
def joinF (z1 z2 : Str) (fs : List (Option Str)) : List (Option Str) := fs.map fun f => if f = some z2 then some z1 else f
/-- the cells that have the one or the other form -/
def bothN (z1 z2 : Str) (fs : List (Option Str)) (i : Nat) : List Nat := (List.range i).filter fun j => decide (fs[j]? = some (some z1) ∨ fs[j]? = some (some z2))
theorem both_next {fs : List (Option Str)} {z1 z2 : Str} {i : Nat} {f : Option Str} (e : fs[i]? = some f) : bothN z1 z2 fs (i + 1) = bothN z1 z2 fs i ++ (if f = some z1 ∨ f = some z2 then [i] else []) := by
  unfold bothN
  rw [List.range_succ, List.filter_append, List.filter_cons, List.filter_nil, e]
  have q : (some f = some (some z1) ∨ some f = some (some z2)) ↔ (f = some z1 ∨ f = some z2) := ⟨fun h => h.imp Option.some.inj Option.some.inj, fun h => h.imp (congrArg some) (congrArg some)⟩
  by_cases c : f = some z1 ∨ f = some z2
  · rw [if_pos c, if_pos (decide_eq_true (q.mpr c))]
  · rw [if_neg c, if_neg (fun h => c (q.mp (of_decide_eq_true h)))]
theorem both_len (z1 z2 : Str) (fs : List (Option Str)) (i : Nat) : (bothN z1 z2 fs i).length ≤ i := by
  have h := List.length_filter_le (fun j => decide (fs[j]? = some (some z1) ∨ fs[j]? = some (some z2))) (List.range i)
  rwa [List.length_range] at h
theorem join_both (z1 z2 : Str) (fs : List (Option Str)) : spots (joinF z1 z2 fs) z1 = bothN z1 z2 fs fs.length := by
  unfold spots bothN joinF
  rw [List.length_map]
  refine List.filter_congr fun i hi => ?_
  rw [decide_eq_decide, List.getElem?_map]
  cases e : fs[i]? with
  | none => simp
  | some f =>
    show some (if f = some z2 then some z1 else f) = some (some z1) ↔ _
    by_cases c : f = some z2
    · rw [if_pos c, c]
      simp
    · rw [if_neg c]
      constructor
      · exact .inl
      · rintro (h | h)
        · exact h
        · exact absurd (Option.some.inj h) c
theorem join_else {z1 z2 z : Str} (fs : List (Option Str)) (h1 : z ≠ z1) (h2 : z ≠ z2) : spots (joinF z1 z2 fs) z = spots fs z := by
  unfold spots joinF
  rw [List.length_map]
  refine List.filter_congr fun i hi => ?_
  rw [decide_eq_decide, List.getElem?_map]
  cases e : fs[i]? with
  | none => simp
  | some f =>
    show some (if f = some z2 then some z1 else f) = some (some z) ↔ _
    by_cases c : f = some z2
    · rw [if_pos c, c]
      constructor
      · intro q
        exact absurd (Option.some.inj (Option.some.inj q)).symm h1
      · intro q
        exact absurd (Option.some.inj (Option.some.inj q)).symm h2
    · rw [if_neg c]
theorem mem_join {z1 z2 z : Str} {fs : List (Option Str)} (m2 : some z2 ∈ fs) : some z ∈ joinF z1 z2 fs ↔ z = z1 ∨ (z ≠ z2 ∧ some z ∈ fs) := by
  unfold joinF
  rw [List.mem_map]
  constructor
  · rintro ⟨f, hf, e⟩
    by_cases c : f = some z2
    · rw [if_pos c] at e
      exact .inl (Option.some.inj e).symm
    · rw [if_neg c] at e
      exact .inr ⟨fun q => c (e.trans (congrArg some q)), e ▸ hf⟩
  · rintro (h | ⟨h, m⟩)
    · exact ⟨some z2, m2, by rw [if_pos rfl, h]⟩
    · exact ⟨some z, m, if_neg fun q => h (Option.some.inj q)⟩
/-- does the tuple begin outside of both? -/
def apart (b : List Nat) (c : List Int) : Bool := !decide (c.headD 0 ∈ nat2 b)
theorem mem_nat2 {j : Nat} {js : List Nat} : (j : Int) ∈ nat2 js ↔ j ∈ js := by
  unfold nat2
  rw [List.mem_map]
  constructor
  · rintro ⟨k, hk, e⟩
    have : k = j := by omega
    exact this ▸ hk
  · exact fun h => ⟨j, h, rfl⟩
theorem mem_both {z1 z2 : Str} {fs : List (Option Str)} {j : Nat} : j ∈ bothN z1 z2 fs fs.length ↔ fs[j]? = some (some z1) ∨ fs[j]? = some (some z2) := by
  unfold bothN
  rw [List.mem_filter, List.mem_range, decide_eq_true_eq]
  exact ⟨fun h => h.2, fun h => ⟨h.elim (fun q => (List.getElem?_eq_some_iff.mp q).1) (fun q => (List.getElem?_eq_some_iff.mp q).1), h⟩⟩
theorem apart_spots {z1 z2 z : Str} {fs : List (Option Str)} (m : some z ∈ fs) : apart (bothN z1 z2 fs fs.length) (nat2 (spots fs z)) = decide (z ≠ z1 ∧ z ≠ z2) := by
  obtain ⟨j, js, e⟩ : ∃ j js, spots fs z = j :: js := by
    cases e : spots fs z with
    | nil => exact absurd e (spots_ne m)
    | cons j js => exact ⟨j, js, rfl⟩
  have at_ : fs[j]? = some (some z) := spots_at.mp (by rw [e]; exact List.mem_cons_self)
  unfold apart
  rw [e]
  show (!decide ((j : Int) ∈ nat2 (bothN z1 z2 fs fs.length))) = _
  rw [Bool.eq_iff_iff, Bool.not_eq_true', decide_eq_false_iff_not, decide_eq_true_eq, mem_nat2, mem_both, at_]
  constructor
  · intro h
    exact ⟨fun q => h (.inl (by rw [q])), fun q => h (.inr (by rw [q]))⟩
  · rintro ⟨h1, h2⟩ (q | q)
    · exact h1 (Option.some.inj (Option.some.inj q))
    · exact h2 (Option.some.inj (Option.some.inj q))
/-- the tuples that begin elsewhere, and both: these are told of the joined one -/
theorem Sm.join {fs : List (Option Str)} {cs ds : List (List Int)} {z1 z2 : Str} (h : Sm fs cs) (m1 : some z1 ∈ fs) (m2 : some z2 ∈ fs) (ne : z1 ≠ z2) (up : ds.Pairwise leC)
    (p : ds.Perm (cs.filter (apart (bothN z1 z2 fs fs.length)) ++ [nat2 (bothN z1 z2 fs fs.length)])) : Sm (joinF z1 z2 fs) ds := by
  obtain ⟨zs, n, a, q⟩ := h.of
  have mid : (zs.filter fun z => decide (z ≠ z2)).Perm ((zs.filter fun z => decide (z ≠ z1 ∧ z ≠ z2)) ++ [z1]) := by
    refine (List.perm_ext_iff_of_nodup (n.sublist List.filter_sublist) (List.nodup_append.mpr ⟨n.sublist List.filter_sublist, by simp, fun x hx y hy e => ?_⟩)).mpr fun z => ?_
    · rw [List.mem_singleton.mp hy] at e
      have := of_decide_eq_true (List.mem_filter.mp hx).2
      exact this.1 e
    · rw [List.mem_append, List.mem_filter, List.mem_filter, List.mem_singleton, decide_eq_true_eq, decide_eq_true_eq]
      constructor
      · rintro ⟨x, y⟩
        by_cases e : z = z1
        · exact .inr e
        · exact .inl ⟨x, e, y⟩
      · rintro (⟨x, _, y⟩ | e)
        · exact ⟨x, y⟩
        · rw [e]
          exact ⟨(a z1).mpr m1, ne⟩
  refine ⟨up, zs.filter fun z => decide (z ≠ z2), n.sublist List.filter_sublist, fun z => ?_, ?_⟩
  · rw [mem_join m2, List.mem_filter, decide_eq_true_eq, a z]
    constructor
    · rintro ⟨x, y⟩
      exact .inr ⟨y, x⟩
    · rintro (e | ⟨x, y⟩)
      · rw [e]
        exact ⟨m1, ne⟩
      · exact ⟨y, x⟩
  · refine p.trans (List.Perm.trans ?_ (mid.map _).symm)
    rw [List.map_append]
    refine List.Perm.append ?_ (List.Perm.of_eq (by rw [List.map_cons, List.map_nil, join_both]))
    refine (q.filter _).trans (List.Perm.of_eq ?_)
    rw [List.filter_map]
    have e1 : zs.filter (apart (bothN z1 z2 fs fs.length) ∘ fun z => nat2 (spots fs z)) = zs.filter fun z => decide (z ≠ z1 ∧ z ≠ z2) := List.filter_congr fun z hz => apart_spots ((a z).mp hz)
    rw [e1]
    refine List.map_congr_left fun z hz => ?_
    have := of_decide_eq_true (List.mem_filter.mp hz).2
    rw [join_else fs this.1 this.2]
theorem join_len (z1 z2 : Str) (fs : List (Option Str)) : (joinF z1 z2 fs).length = fs.length := List.length_map ..
/-- a joined table's forms are forms of a table -/
theorem FormsOk.join {n : Nat} {fs : List (Option Str)} {z1 z2 : Str} (ok : FormsOk n fs) (m1 : some z1 ∈ fs) (m2 : some z2 ∈ fs) (rise : ∃ zs, Rising fs zs) : FormsOk n (joinF z1 z2 fs) := by
  obtain ⟨zs, r⟩ := rise
  refine ⟨by rw [join_len]; exact ok.len, ok.few, fun z hz => ?_, fun us ru => ?_⟩
  · rcases (mem_join m2).mp hz with e | ⟨_, m⟩
    · rw [e]; exact ok.word z1 m1
    · exact ok.word z m
  · have sub : us.length ≤ zs.length := List.Nodup.length_le_of_subset ru.nd fun z hz => (r.all z).mpr (by
      rcases (mem_join m2).mp ((ru.all z).mp hz) with e | ⟨_, m⟩
      · rw [e]; exact m1
      · exact m)
    have := ok.unlike zs r
    omega
end Xci

namespace Xci
open PySem L2
/-! ### another source of draws: its state stands ahead of its count -/
def Dice (H : Hp) (a l : Addr) : Prop := ∃ (ns : List Int) (i c s n : Int), H a = some (.lst [.ref l, .int i, .int c, .int s, .int n]) ∧ H l = some (.lst (ns.map V.int)) ∧ a ≠ l ∧ (∀ z ∈ ns, 0 ≤ z) ∧ 0 ≤ i ∧ i ≤ (ns.length : Int) ∧ 0 ≤ c ∧ 0 ≤ s ∧ s < 2147483647
theorem Dice.is {H : Hp} {a l : Addr} (d : Dice H a l) : ∃ ys, H a = some (.lst ys) := by
  obtain ⟨ns, i, c, s, n, h, _⟩ := d
  exact ⟨_, h⟩
theorem Dice.is' {H : Hp} {a l : Addr} (d : Dice H a l) : ∃ ys, H l = some (.lst ys) := by
  obtain ⟨ns, i, c, s, n, _, h, _⟩ := d
  exact ⟨_, h⟩
theorem Dice.tfr {H H' : Hp} {a l : Addr} (d : Dice H a l) (f : Fr a H H') : TFr H H' := by
  obtain ⟨ys, h⟩ := d.is
  exact TFr.fr h f
theorem Dice.keep {H H' : Hp} {a l : Addr} (d : Dice H a l) (f : Same H H') : Dice H' a l := by
  obtain ⟨ns, i, c, s, n, h, hl, r⟩ := d
  exact ⟨ns, i, c, s, n, f _ _ h, f _ _ hl, r⟩
theorem Dice.put {H : Hp} {a l q : Addr} {o : HO} (d : Dice H a l) (n1 : q ≠ a) (n2 : q ≠ l) : Dice (upd H q o) a l := by
  obtain ⟨ns, i, c, s, n, h, hl, r⟩ := d
  exact ⟨ns, i, c, s, n, by rw [upd_ne n1.symm]; exact h, by rw [upd_ne n2.symm]; exact hl, r⟩
theorem Dice.ne {H : Hp} {a l q : Addr} (d : Dice H a l) (h : H q = Option.none) : q ≠ a := by
  obtain ⟨ys, z⟩ := d.is
  exact (ne_of_none z h).symm
theorem Dice.ne' {H : Hp} {a l q : Addr} (d : Dice H a l) (h : H q = Option.none) : q ≠ l := by
  obtain ⟨ys, z⟩ := d.is'
  exact (ne_of_none z h).symm
theorem Dice.free {H H' : Hp} {a l q : Addr} (d : Dice H' a l) (f : Fr a H H') (h : H' q = Option.none) : H q = Option.none := by
  have n := d.ne h
  cases e : H q with
  | none => rfl
  | some u => rw [f q u e n] at h; cases h
def spDraw : Sp := fun vs H Q _ => ∃ (a l : Addr) (m : Int), vs = [.ref a, .int m] ∧ Dice H a l ∧ 0 < m ∧ m < 1073741824 ∧ ∀ (d : Int) (H' : Hp), 0 ≤ d → d < m → Dice H' a l → Fr a H H' → Q (.int d) H'
def spDice (K : PySem.W.Frag) : Sp := fun vs H Q _ => ∃ (a : Addr) (ns : List Int), vs = [.ref a] ∧ SqL K H a (ns.map V.int) ∧ ns.length ≤ 63 ∧ ∀ (d l : Addr) (H' : Hp), Dice H' d l → Same H H' → Q (.ref d) H'
def spRare (K : PySem.W.Frag) : Sp := fun vs H Q _ => ∃ (a : Addr) (ns : List Int) (m : Int), vs = [.ref a, .int m] ∧ SqL K H a (ns.map V.int) ∧ ns.length ≤ 63 ∧ 0 < m ∧ ∀ (d : Int) (H' : Hp), 0 ≤ d → d < m → Same H H' → Q (.int d) H'
def spOrder : Sp := fun vs H Q _ => ∃ (a l : Addr) (m : Nat), vs = [.ref a, .int (m : Int)] ∧ Dice H a l ∧ m ≤ 64 ∧
  ∀ (q : Addr) (js : List Nat) (H' : Hp), js.Perm (List.range m) → H' q = some (.lst ((nat2 js).map V.int)) → H q = Option.none → Dice H' a l → Fr a H H' → Q (.ref q) H'
def spAllCells : Sp := fun vs H Q _ => ∃ n : Int, vs = [.int n] ∧ 0 ≤ n ∧ n ≤ 6 ∧ ∀ (q : Addr) (ys : List V) (cs : List (List Int)) (H' : Hp), H' q = some (.lst ys) → Mks H' ys cs → cs.Perm (lots (rng n)) → Same H H' → H q = Option.none → Q (.ref q) H'
def spFamilyD : Sp := fun vs H Q _ => ∃ (a l : Addr) (mm mc : Int), vs = [.ref a, .int mm, .int mc] ∧ Dice H a l ∧ 0 ≤ mm ∧ mm ≤ 6 ∧ 1 ≤ mc ∧ mc ≤ 24 ∧
  ∀ (v : V) (p : Addr) (many : Int) (ys : List V) (cells : List (List Int)) (H' : Hp), Tup H' v [.int many, .ref p] → H' p = some (.tup ys) → Mks H' ys cells → FamOk many cells → Dice H' a l → Fr a H H' → Q v H'
def spSomeT : Sp := fun vs H Q _ => ∃ (a l : Addr) (v : V) (ms : List Int), vs = [.ref a, v] ∧ Dice H a l ∧ Xci.Mk H v ms ∧ ms.length ≤ 64 ∧ ∀ (u : V) (ks : List Int) (H' : Hp), Xci.Mk H' u ks → ks.Sublist ms → Dice H' a l → Fr a H H' → Q u H'
def spSomeL : Sp := fun vs H Q _ => ∃ (a l p : Addr) (ms : List Int), vs = [.ref a, .ref p] ∧ Dice H a l ∧ H p = some (.lst (ms.map V.int)) ∧ p ≠ a ∧ ms.length ≤ 64 ∧ ∀ (u : V) (ks : List Int) (H' : Hp), Xci.Mk H' u ks → ks.Sublist ms → Dice H' a l → Fr a H H' → Q u H'
def spSome : Sp := fun vs H Q E => spSomeT vs H Q E ∨ spSomeL vs H Q E
/-! ### rules -/
/-- a strike (of y where x is), or a lead (from x to y) -/
structure Rl where
  st : Bool
  x : List Int
  y : List Int
def Rl.word (r : Rl) : Str := if r.st then "strike" else "lead"
def RlV (H : Hp) (v : V) (r : Rl) : Prop := ∃ u w, Tup H v [.str r.word, u, w] ∧ Xci.Mk H u r.x ∧ Xci.Mk H w r.y
theorem RlV.keep {H H' : Hp} {v : V} {r : Rl} (f : TFr H H') (h : RlV H v r) : RlV H' v r := by
  obtain ⟨u, w, a, b, c⟩ := h
  exact ⟨u, w, a.keep f, Tup.keep f b, Tup.keep f c⟩
structure RlOk (r : Rl) : Prop where
  x : MarksOk 6 r.x
  y : MarksOk 6 r.y
abbrev Rls (H : Hp) (vs : List V) (rs : List Rl) : Prop := Paired (fun v r => RlV H v r) vs rs
theorem Rls.keep {H H' : Hp} {vs : List V} {rs : List Rl} (f : TFr H H') (t : Rls H vs rs) : Rls H' vs rs := Paired.mapP t fun _ _ h => RlV.keep f h
def lessM (c ys : List Int) : List Int := c.filter fun m => !decide (m ∈ ys)
def stepR (r : Rl) (c : List Int) : List Int := if r.st = true then (if inside r.x c = true then lessM c r.y else c) else (if r.x = c then r.y else c)
def behindR (rs : List Rl) (c : List Int) : List Int := rs.foldl (fun c r => stepR r c) c
theorem stepR_ok {r : Rl} {c : List Int} (ok : RlOk r) (h : MarksOk 6 c) : MarksOk 6 (stepR r c) := by
  unfold stepR
  split
  · split
    · exact h.sub List.filter_sublist
    · exact h
  · split
    · exact ok.y
    · exact h
theorem behindR_ok : ∀ {rs : List Rl} {c : List Int}, (∀ r ∈ rs, RlOk r) → MarksOk 6 c → MarksOk 6 (behindR rs c)
  | [], _, _, h => h
  | r :: rs, c, ok, h => behindR_ok (rs := rs) (fun x hx => ok x (List.mem_cons_of_mem _ hx)) (stepR_ok (ok r List.mem_cons_self) h)
theorem behindR_app (rs ss : List Rl) (c : List Int) : behindR (rs ++ ss) c = behindR ss (behindR rs c) := List.foldl_append ..
theorem behindR_next {rs : List Rl} {i : Nat} {r : Rl} (c : List Int) (h : rs[i]? = some r) : behindR (rs.take (i + 1)) c = stepR r (behindR (rs.take i) c) := by
  rw [List.take_add_one, h, behindR_app] <;> rfl
theorem lessM_lessM (c ys : List Int) : lessM (lessM c ys) ys = lessM c ys := by
  unfold lessM
  rw [List.filter_filter]
  refine List.filter_congr fun m _ => ?_
  rw [Bool.and_self]
theorem strike_twice (r : Rl) (h : r.st = true) (c : List Int) : stepR r (stepR r c) = stepR r c := by
  unfold stepR
  rw [if_pos h, if_pos h]
  by_cases e : inside r.x c = true
  · rw [if_pos e]
    split
    · exact lessM_lessM _ _
    · rfl
  · rw [if_neg e, if_neg e]
theorem lessM_next {c : List Int} {i : Nat} {m : Int} (ys : List Int) (h : c[i]? = some m) : lessM (c.take (i + 1)) ys = lessM (c.take i) ys ++ (if (!decide (m ∈ ys)) = true then [m] else []) := by
  unfold lessM
  rw [List.take_add_one, h, List.filter_append]
  refine congrArg _ ?_
  show ([m] : List Int).filter _ = _
  rw [List.filter_cons, List.filter_nil]
theorem lessM_len (c ys : List Int) (i : Nat) : (lessM (c.take i) ys).length ≤ i := Nat.le_trans (List.length_filter_le _ _) (List.length_take_le _ _)
theorem eqv_marks (a b : List Int) : PyData.eqv (.tuple (a.map PyData.int)) (.tuple (b.map PyData.int)) = decide (a = b) := by
  simp only [PyData.eqv]
  exact eqvAll_ints a b
theorem eq_marks {K : PySem.W.Frag} {H : Hp} {u v : V} {a b : List Int} {Q : V → Hp → Prop} (hu : Xci.Mk H u a) (hv : Xci.Mk H v b) (q : Q (.bl (decide (a = b))) H) : rEqD K u v H Q := by
  refine ⟨_, _, dp_marks hu, dp_marks hv, sh_marks a, sh_marks b, ?_⟩
  rw [eqv_marks]
  exact q
/-- rules compare -/
def rlD (r : Rl) : PyData := .tuple [.str r.word, .tuple (r.x.map PyData.int), .tuple (r.y.map PyData.int)]
theorem dp_rl {K : PySem.W.Frag} {H : Hp} {v : V} {r : Rl} (h : RlV H v r) : Dp K H v (rlD r) := by
  obtain ⟨u, w, ⟨p, rfl, hp⟩, mu, mw⟩ := h
  exact .tup (sqT hp) (.cons (.str _) (.cons (dp_marks mu) (.cons (dp_marks mw) .nil)))
theorem dp_rls {K : PySem.W.Frag} {H : Hp} : ∀ {ys : List V} {rs : List Rl}, Rls H ys rs → DpAll K H ys (rs.map rlD)
  | _, _, .nil => .nil
  | _, _, .cons m r => .cons (dp_rl m) (dp_rls r)
theorem lay_rl (r : Rl) : PyData.canLay0 (rlD r) = true ∧ PyData.depth (rlD r) ≤ 2 := by
  obtain ⟨a, b⟩ := lay_ints r.x
  obtain ⟨c, d⟩ := lay_ints r.y
  have w : PyData.strOk r.word = true := by
    unfold Rl.word
    cases r.st <;> decide +kernel
  refine ⟨by simp [rlD, PyData.canLay0, PyData.canLayAll0, a, c, w], ?_⟩
  simp [rlD, PyData.depth, PyData.depthAll, b, d]
theorem lay_rls : ∀ (rs : List Rl), PyData.canLayAll0 (rs.map rlD) = true ∧ PyData.depthAll (rs.map rlD) ≤ 2
  | [] => ⟨rfl, Nat.zero_le _⟩
  | r :: rs => by
    obtain ⟨a, b⟩ := lay_rls rs
    obtain ⟨c, d⟩ := lay_rl r
    rw [List.map_cons]
    refine ⟨by rw [PyData.canLayAll0, a, c] <;> rfl, ?_⟩
    rw [PyData.depthAll]
    exact Nat.max_le.mpr ⟨d, b⟩
theorem sh_rls (rs : List Rl) : SeqAt.shaped (.list (rs.map rlD)) = true := by
  obtain ⟨a, b⟩ := lay_rls rs
  have d : PyData.depth (.list (rs.map rlD)) ≤ 64 := by
    simp only [PyData.depth]
    omega
  unfold SeqAt.shaped
  rw [decide_eq_true d, Bool.and_true]
  simpa [PyData.canLay0] using a
theorem ne_rls {K : PySem.W.Frag} {H : Hp} {a b : Addr} {xs ys : List V} {rs : List Rl} {Q : V → Hp → Prop} (ha : H a = some (.lst xs)) (hb : H b = some (.lst ys)) (ma : Rls H xs rs) (mb : Rls H ys rs) (q : Q (.bl false) H) : rNeD K (.ref a) (.ref b) H Q := by
  refine ⟨_, _, .lst (SqL.of ha) (dp_rls ma), .lst (SqL.of hb) (dp_rls mb), sh_rls rs, sh_rls rs, ?_⟩
  rw [eqv_same (sh_rls rs)]
  exact q
theorem ne_mk {K : PySem.W.Frag} {H : Hp} {u v : V} {ms : List Int} {Q : V → Hp → Prop} (hu : Xci.Mk H u ms) (hv : Xci.Mk H v ms) (q : Q (.bl false) H) : rNeD K u v H Q := ne_tup hu hv (ok_intsV ms) q
def spLawBehind : Sp := fun vs H Q _ => ∃ (p : Addr) (v : V) (ys : List V) (rs : List Rl) (c : List Int), vs = [.ref p, v] ∧ H p = some (.lst ys) ∧ Rls H ys rs ∧ (∀ r ∈ rs, RlOk r) ∧ Xci.Mk H v c ∧ MarksOk 6 c ∧ ∀ (u : V) (H' : Hp), Xci.Mk H' u (behindR rs c) → Same H H' → Q u H'
def spLawRule : Sp := fun vs H Q _ => ∃ (a l p : Addr) (many : Int) (ys : List V) (cells : List (List Int)), vs = [.ref a, .int many, .ref p] ∧ Dice H a l ∧ 0 ≤ many ∧ many ≤ 6 ∧ H p = some (.tup ys) ∧ Mks H ys cells ∧ cells ≠ [] ∧ cells.length ≤ 24 ∧ (∀ c ∈ cells, MarksOk 6 c) ∧
  ∀ (v : V) (r : Rl) (H' : Hp), RlV H' v r → RlOk r → Dice H' a l → Fr a H H' → Q v H'
def spIsRule : Sp := fun vs H Q _ => ∃ (v : V) (r : Rl), vs = [v] ∧ RlV H v r ∧ RlOk r ∧ ∀ H', Same H H' → Q (.bl true) H'
/-- a list or a tuple of rules -/
structure RlsAt (w : Bool) (H : Hp) (p : Addr) (ys : List V) (rs : List Rl) : Prop where
  at_ : H p = some (if w = true then .lst ys else .tup ys)
  rl : Rls H ys rs
  ok : ∀ r ∈ rs, RlOk r
  few : rs.length ≤ 20
theorem RlsAt.keep {w : Bool} {H H' : Hp} {p : Addr} {ys : List V} {rs : List Rl} (h : RlsAt w H p ys rs) (s : Same H H') : RlsAt w H' p ys rs := ⟨s _ _ h.at_, h.rl.keep (TFr.same s), h.ok, h.few⟩
def spAreRules (w : Bool) : Sp := fun vs H Q _ => ∃ (p : Addr) (ys : List V) (rs : List Rl), vs = [.ref p] ∧ RlsAt w H p ys rs ∧ ∀ H', Same H H' → Q (.bl true) H'
def spNeedRules (w : Bool) : Sp := fun vs H Q _ => ∃ (p : Addr) (ys : List V) (rs : List Rl), vs = [.ref p] ∧ RlsAt w H p ys rs ∧ ∀ H', Same H H' → Q .non H'
def spBehind (w : Bool) : Sp := fun vs H Q _ => ∃ (p : Addr) (v : V) (ys : List V) (rs : List Rl) (c : List Int), vs = [.ref p, v] ∧ RlsAt w H p ys rs ∧ Xci.Mk H v c ∧ MarksOk 6 c ∧ ∀ (u : V) (H' : Hp), Xci.Mk H' u (behindR rs c) → Same H H' → Q u H'
def spEither (f : Bool → Sp) : Sp := fun vs H Q E => f true vs H Q E ∨ f false vs H Q E
theorem ok_either {P : Program} {w : World} {K : PySem.W.Frag} {mg : Str → Option Value} {base : Heap} {f : Addr} {fd : FuncData} {ps : List Str} {k : Nat} {sp sp' : Sp} (g : FnOk P w K mg base CX0 k f fd ps sp) (g' : FnOk P w K mg base CX0 k f fd ps sp') : FnOk P w K mg base CX0 k f fd ps (fun vs H Q E => sp vs H Q E ∨ sp' vs H Q E) :=
  ⟨fun vs H Q E h => h.elim (g.len vs H Q E) (g'.len vs H Q E), fun A outer s H args us vs Q E hr he hb hv hs => hs.elim (fun h => g.run A outer s H args us vs Q E hr he hb hv h) (fun h => g'.run A outer s H args us vs Q E hr he hb hv h)⟩
end Xci

namespace Xci
open PySem L2

section
variable {P : Program} {w : World} {K : PySem.W.Frag} {mg : Str → Option Value} {base : Heap}
abbrev sLawDraw : Stmt := top 36
theorem scLawDraw : FnScope ["dice", "sides", "cell", "digit", "mixed"] ["dice", "sides"] (defScope sLawDraw) := ⟨rfl, rfl, rfl, by decide +kernel, rfl, by decide +kernel, by decide +kernel⟩

theorem ok_draw {f : Addr} {fd : FuncData} (F : Fun K "_law_draw" "_law_draw" sLawDraw f fd) (T : Txt mg) : FnOk P w K mg base CX0 1 f fd ["dice", "sides"] spDraw := by
  refine F.ok scLawDraw (fun vs H Q E h => ?_) (fun cdv A outer s H vs Q E hr h => ?_)
  · obtain ⟨a, l, m, rfl, _⟩ := h
    rfl
  · obtain ⟨a, l, m, rfl, ⟨ns, i, c, s, n, h1, hl, hal, hns, hi0, hil, hc0, hs0, hs1⟩, hm, hm2, k⟩ := h
    refine ⟨_, (C8.pss_cut (ps_if (PW.pt (pw_and (pt_cmpR op_eq (pe_ix ix_list (pv 0) pe_int (fun _ _ => rfl)) pe_int (nomark _)) (pw_and1 (pt_cmpR op_lt (pe_ix ix_list (pv 0) pe_int (fun _ _ => rfl)) (pe_callB call_len rfl T.len PySem.boot_len (pa_cons (pe_ix ix_list (pv 0) pe_int (fun _ _ => rfl)) pa_nil)) (nomark _))))) (pss_cons (ps_set (i := 2) scLawDraw.nd rfl (by first | exact Or.inl rfl | exact Or.inr rfl) (pe_ix ix_list (pe_ix ix_list (pv 0) pe_int (fun _ _ => rfl)) (pe_ix ix_list (pv 0) pe_int (fun _ _ => rfl)) (fun _ _ => rfl)))
      (pss_cons (ps_asg (pe_op op_add (pe_ix ix_list (pv 0) pe_int (fun _ _ => rfl)) pe_int) (pg_sub (pv 0) pe_int set_list))
      (pss_one (ps_if (pt_cmpR op_ge (pv 2) (pe_op op_pow pe_int pe_int) (nomark _)) (pss_one (ps_asg (pv 2) (pg_sub (pv 0) pe_int set_list))) (pss_one (ps_asg (pe_op op_mod (pe_callTy call_int1 rfl T.int (by decide +kernel) (pa_cons (pe_op op_add (pe_op op_add (pe_op op_mul (pe_ix ix_list (pv 0) pe_int (fun _ _ => rfl)) pe_int) (pe_op op_mul (pv 2) pe_int)) (pe_ix ix_list (pv 0) pe_int (fun _ _ => rfl))) pa_nil)) pe_int) (pg_sub (pv 0) pe_int set_list))))))) pss_nil)
      (C8.pss_cut (ps_if (pt_cmpR op_gt (pe_ix ix_list (pv 0) pe_int (fun _ _ => rfl)) pe_int (nomark _)) (pss_cons (ps_set (i := 3) scLawDraw.nd rfl (by first | exact Or.inl rfl | exact Or.inr rfl) (pe_op op_mod (pe_callTy call_int1 rfl T.int (by decide +kernel) (pa_cons (pe_ix ix_list (pv 0) pe_int (fun _ _ => rfl)) pa_nil)) (pv 1)))
      (pss_cons (ps_asg (pe_op op_fdiv (pe_callTy call_int1 rfl T.int (by decide +kernel) (pa_cons (pe_ix ix_list (pv 0) pe_int (fun _ _ => rfl)) pa_nil)) (pv 1)) (pg_sub (pv 0) pe_int set_list))
      (pss_one (ps_ret (pv 3))))) pss_nil)
      (C8.pss_cut (ps_asg (pe_op op_add (pe_ix ix_list (pv 0) pe_int (fun _ _ => rfl)) pe_int) (pg_sub (pv 0) pe_int set_list))
      (C8.pss_cut (ps_asg (pe_op op_mod (pe_callTy call_int1 rfl T.int (by decide +kernel) (pa_cons (pe_op op_add (pe_op op_add (pe_op op_mul (pe_ix ix_list (pv 0) pe_int (fun _ _ => rfl)) pe_int) (pe_op op_mul (pe_ix ix_list (pv 0) pe_int (fun _ _ => rfl)) pe_int)) pe_int) pa_nil)) pe_int) (pg_sub (pv 0) pe_int set_list))
      (C8.pss_cut (ps_set (i := 4) scLawDraw.nd rfl (by first | exact Or.inl rfl | exact Or.inr rfl) (pe_op op_mod (pe_callTy call_int1 rfl T.int (by decide +kernel) (pa_cons (pe_op op_mul (pe_ix ix_list (pv 0) pe_int (fun _ _ => rfl)) (pe_op op_add (pe_op op_fdiv (pe_ix ix_list (pv 0) pe_int (fun _ _ => rfl)) pe_int) pe_int)) pa_nil)) pe_int))
      (C8.pss_cut (ps_set (i := 4) scLawDraw.nd rfl (by first | exact Or.inl rfl | exact Or.inr rfl) (pe_op op_mod (pe_callTy call_int1 rfl T.int (by decide +kernel) (pa_cons (pe_op op_mul (pv 4) (pe_op op_add (pe_op op_fdiv (pv 4) pe_int) pe_int)) pa_nil)) pe_int))
      (pss_one (ps_ret (pe_op op_mod (pe_callTy call_int1 rfl T.int (by decide +kernel) (pa_cons (pe_op op_fdiv (pv 4) pe_int) pa_nil)) (pv 1)))))))))), ?_⟩
    refine ⟨fun σ' H3 => ∃ (x : Option V) (i c s : Int), σ' = [some (.ref a), some (.int m), x, none, none] ∧ H3 a = some (.lst [.ref l, .int i, .int c, .int s, .int n]) ∧ 0 ≤ i ∧ i ≤ (ns.length : Int) ∧ 0 ≤ c ∧ 0 ≤ s ∧ s < 2147483647 ∧ ∀ b, b ≠ a → H3 b = H b, ?_, ?_⟩
    · refine ⟨_, rfl, a, _, _, _, rfl, rfl, SqL.of h1, at_of (j := 2) rfl rfl, rfl, _, rfl, ?_⟩
      refine ite2 (fun _ => ?_) (fun _ => ?_)
      · refine ⟨_, rfl, a, _, _, _, rfl, rfl, SqL.of h1, at_of (j := 1) rfl rfl, _, rfl, a, _, _, _, rfl, rfl, SqL.of h1, at_of (j := 0) rfl rfl, _, _, rfl, .inl ⟨_, SqL.of hl, rfl⟩, _, _, rfl, rfl, _, rfl, ?_⟩
        refine ite2 (fun hi => ?_) (fun _ => ?_)
        · have hi : i < (ns.length : Int) := by simpa using hi
          obtain ⟨j, ej⟩ : ∃ j : Nat, i = (j : Int) := ⟨i.toNat, by omega⟩
          have hj : j < ns.length := by omega
          have hnz : 0 ≤ ns[j] := hns _ (List.getElem_mem hj)
          refine ⟨_, rfl, a, _, _, _, rfl, rfl, SqL.of h1, at_of (j := 0) rfl rfl, _, rfl, a, _, _, _, rfl, rfl, SqL.of h1, at_of (j := 1) rfl rfl, l, _, _, _, rfl, rfl, SqL.of hl, at_of (j := j) (v := V.int ns[j]) ej (by rw [List.getElem?_map, List.getElem?_eq_getElem hj]; rfl), ?_⟩
          generalize hz : ns[j] = z at *
          refine ⟨_, rfl, a, _, _, _, rfl, rfl, SqL.of h1, at_of (j := 1) rfl rfl, _, _, rfl, rfl, _, rfl, a, _, _, 1, rfl, rfl, h1, rfl, ?_⟩
          generalize hH3 : upd H a _ = H3
          have e3 : H3 a = some (.lst [.ref l, .int (i + 1), .int c, .int s, .int n]) := by rw [← hH3]; exact upd_same
          have o3 : ∀ b, b ≠ a → H3 b = H b := fun b hb => by rw [← hH3]; exact upd_ne hb
          clear hH3
          refine ⟨_, rfl, _, _, rfl, rfl, ⟨by decide, by decide, by decide⟩, _, _, rfl, rfl, _, rfl, ?_⟩
          refine ite2 (fun _ => ?_) (fun _ => ?_)
          · refine ⟨_, rfl, _, rfl, a, _, _, 2, rfl, rfl, e3, rfl, ?_⟩
            exact ⟨_, i + 1, z, s, rfl, upd_same, by omega, by omega, hnz, hs0, hs1, fun b hb => by rw [upd_ne hb]; exact o3 b hb⟩
          · refine ⟨_, rfl, a, _, _, _, rfl, rfl, SqL.of e3, at_of (j := 3) rfl rfl, _, _, rfl, rfl, .inr ⟨by decide, by decide⟩, _, rfl, _, _, rfl, rfl, .inr ⟨by decide, by decide⟩, _, _, rfl, rfl, _, rfl, a, _, _, _, rfl, rfl, SqL.of e3, at_of (j := 1) rfl rfl, _, _, rfl, rfl, .inl ⟨_, rfl, _, _, rfl, rfl, (by show (0 : Int) < 2147483647; decide), _, rfl, a, _, _, 3, rfl, rfl, e3, rfl, ?_⟩⟩
            obtain ⟨b1, b2⟩ := mod_bd (s * 69621 + z * 40692 + (i + 1)) (m := 2147483647) (by decide)
            exact ⟨_, i + 1, c, _, rfl, upd_same, by omega, by omega, hc0, b1, b2, fun b hb => by rw [upd_ne hb]; exact o3 b hb⟩
        · exact ⟨_, i, c, s, rfl, h1, hi0, hil, hc0, hs0, hs1, fun _ _ => rfl⟩
      · exact ⟨_, i, c, s, rfl, h1, hi0, hil, hc0, hs0, hs1, fun _ _ => rfl⟩
    rintro σ' H3 ⟨x, i, c, s, rfl, e3, hi0, hil, hc0, hs0, hs1, o3⟩
    have fin : ∀ (d i c s n : Int) (H' : Hp), 0 ≤ d → d < m → H' a = some (.lst [.ref l, .int i, .int c, .int s, .int n]) → 0 ≤ i → i ≤ (ns.length : Int) → 0 ≤ c → 0 ≤ s → s < 2147483647 → (∀ b, b ≠ a → H' b = H b) → Q (.int d) H' :=
      fun d i c s n H' d0 d1 e i0 i1 c0 s0 s1 o => k d H' d0 d1 ⟨ns, i, c, s, n, e, by rw [o l (Ne.symm hal)]; exact hl, hal, hns, i0, i1, c0, s0, s1⟩ (fun b u h hb => by rw [o b hb]; exact h)
    refine ⟨fun σ' H4 => σ' = [some (.ref a), some (.int m), x, none, none] ∧ H4 = H3, ?_, ?_⟩
    · refine ⟨_, rfl, a, _, _, _, rfl, rfl, SqL.of e3, at_of (j := 2) rfl rfl, _, _, rfl, rfl, _, rfl, ?_⟩
      refine ite2 (fun _ => ?_) (fun _ => ⟨rfl, rfl⟩)
      obtain ⟨b1, b2⟩ := mod_bd c hm
      refine ⟨_, rfl, a, _, _, _, rfl, rfl, SqL.of e3, at_of (j := 2) rfl rfl, .inl ⟨_, rfl, _, rfl, _, _, rfl, rfl, hm, ?_⟩⟩
      refine ⟨_, rfl, a, _, _, _, rfl, rfl, SqL.of e3, at_of (j := 2) rfl rfl, .inl ⟨_, rfl, _, rfl, _, _, rfl, rfl, ⟨hm, hm2⟩, _, rfl, a, _, _, 2, rfl, rfl, e3, rfl, _, rfl, ?_⟩⟩
      exact fin _ i (c / m) s n _ b1 b2 upd_same hi0 hil (Int.ediv_nonneg hc0 (by omega)) hs0 hs1 fun b hb => by rw [upd_ne hb]; exact o3 b hb
    rintro σ' H4 ⟨rfl, rfl⟩
    have bd : ∀ x : Int, 0 ≤ x % 2147483647 ∧ x % 2147483647 < 2147483647 := fun x => mod_bd x (by decide)
    have bd2 : ∀ x : Int, 0 ≤ x % 2147483399 ∧ x % 2147483399 < 2147483399 := fun x => mod_bd x (by decide)
    refine ⟨fun σ' H5 => σ' = [some (.ref a), some (.int m), x, none, none] ∧ H5 a = some (.lst [.ref l, .int i, .int c, .int s, .int (n + 1)]) ∧ ∀ b, b ≠ a → H5 b = H b, ?_, ?_⟩
    · refine ⟨_, rfl, a, _, _, _, rfl, rfl, SqL.of e3, at_of (j := 4) rfl rfl, _, _, rfl, rfl, _, rfl, a, _, _, 4, rfl, rfl, e3, rfl, ?_⟩
      exact ⟨rfl, upd_same, fun b hb => by rw [upd_ne hb]; exact o3 b hb⟩
    rintro σ' H5 ⟨rfl, e5, o5⟩
    refine ⟨fun σ' H6 => ∃ s : Int, 0 ≤ s ∧ s < 2147483647 ∧ σ' = [some (.ref a), some (.int m), x, none, none] ∧ H6 a = some (.lst [.ref l, .int i, .int c, .int s, .int (n + 1)]) ∧ ∀ b, b ≠ a → H6 b = H b, ?_, ?_⟩
    · refine ⟨_, rfl, a, _, _, _, rfl, rfl, SqL.of e5, at_of (j := 3) rfl rfl, _, _, rfl, rfl, .inr ⟨by decide, by decide⟩, _, rfl, a, _, _, _, rfl, rfl, SqL.of e5, at_of (j := 4) rfl rfl, _, _, rfl, rfl, .inr ⟨by decide, by decide⟩, _, _, rfl, rfl, _, _, rfl, rfl, .inl ⟨_, rfl, _, _, rfl, rfl, (by show (0 : Int) < 2147483647; decide), _, rfl, a, _, _, 3, rfl, rfl, e5, rfl, ?_⟩⟩
      exact ⟨_, (bd _).1, (bd _).2, rfl, upd_same, fun b hb => by rw [upd_ne hb]; exact o5 b hb⟩
    rintro σ' H6 ⟨s6, t0, t1, rfl, e6, o6⟩
    refine ⟨fun σ' H7 => ∃ y : Int, 0 ≤ y ∧ y < 2147483399 ∧ σ' = [some (.ref a), some (.int m), x, none, some (.int y)] ∧ H7 = H6, ?_, ?_⟩
    · refine ⟨_, rfl, a, _, _, _, rfl, rfl, SqL.of e6, at_of (j := 3) rfl rfl, _, rfl, a, _, _, _, rfl, rfl, SqL.of e6, at_of (j := 3) rfl rfl, _, _, rfl, rfl, ⟨by decide, by decide⟩, _, _, rfl, rfl, _, _, rfl, rfl, .inl ⟨by omega, by omega⟩, .inl ⟨_, rfl, _, _, rfl, rfl, (by show (0 : Int) < 2147483399; decide), ?_⟩⟩
      exact ⟨_, (bd2 _).1, (bd2 _).2, rfl, rfl⟩
    rintro σ' H7 ⟨y, y0, y1, rfl, rfl⟩
    refine ⟨fun σ' H8 => ∃ y : Int, σ' = [some (.ref a), some (.int m), x, none, some (.int y)] ∧ H8 = H7, ?_, ?_⟩
    · refine ⟨_, rfl, _, rfl, _, _, rfl, rfl, ⟨by decide, by decide⟩, _, _, rfl, rfl, _, _, rfl, rfl, .inl ⟨by omega, by omega⟩, .inl ⟨_, rfl, _, _, rfl, rfl, (by show (0 : Int) < 2147483563; decide), ?_⟩⟩
      exact ⟨_, rfl, rfl⟩
    rintro σ' H8 ⟨y2, rfl, rfl⟩
    refine ⟨_, rfl, _, _, rfl, rfl, ⟨by decide, by decide⟩, .inl ⟨_, rfl, _, rfl, _, _, rfl, rfl, hm, ?_⟩⟩
    obtain ⟨b1, b2⟩ := mod_bd (y2 / 16) hm
    exact fin _ i c s6 (n + 1) _ b1 b2 e6 hi0 hil hc0 t0 t1 o6
abbrev sLawDice : Stmt := top 35
theorem scLawDice : FnScope ["script", "cell"] ["script"] (defScope sLawDice) := ⟨rfl, rfl, rfl, by decide +kernel, rfl, by decide +kernel, by decide +kernel⟩

theorem ok_dice {f : Addr} {fd : FuncData} (F : Fun K "_law_dice" "_law_dice" sLawDice f fd) (T : Txt mg) : FnOk P w K mg base CX0 1 f fd ["script"] (spDice K) := by
  refine F.ok scLawDice (fun vs H Q E h => ?_) (fun cdv A outer s H vs Q E hr h => ?_)
  · obtain ⟨a, m, rfl, _⟩ := h
    rfl
  · obtain ⟨a, ns, rfl, hS, hlen, k⟩ := h
    refine ⟨_, (pss_one (ps_ret (pe_lst (pa_cons (pe_lc (own := [("cell", 1)]) rfl scLawDice.nd (pi_list (pe_slice sl_list (pv 0) po_none (po_some pe_int))) (blkOk_by (N := ["script", "cell"]) (sc := defScope sLawDice) (by decide +kernel)) (fun _ _ _ _ _ => (pg_name (i := 1) scLawDice.nd rfl (by first | exact Or.inl rfl | exact Or.inr rfl))) (fun _ _ _ _ _ => pts_nil) (fun _ _ _ _ _ => (pe_callB call_abs rfl T.abs (by decide +kernel) (pa_cons (pe_callTy call_int1 rfl T.int (by decide +kernel) (pa_cons (pv 1) pa_nil)) pa_nil)))) (pa_cons pe_int (pa_cons pe_int (pa_cons pe_int (pa_cons pe_int pa_nil)))))))), ?_⟩
    refine ⟨_, rfl, _, rfl, _, _, rfl, hS, fun p2 hp2 => ⟨_, rfl, ⟨_, SqL.of upd_same⟩, ?_⟩⟩
    intro D hD
    have sp1 : Same H (upd H p2 (.lst (cutV (ns.map V.int) none (some 63)))) := Same.new hp2
    generalize hH3 : upd H p2 (.lst (cutV (ns.map V.int) none (some 63))) = H3 at sp1 hD
    have e3 : H3 p2 = some (.lst ((ns.take 63).map V.int)) := by rw [← hH3, cut63]; exact upd_same
    clear hH3
    refine lc_list (K := K) (a := p2) (xs := (ns.take 63).map V.int) (fun i H4 => ∃ zs : List Int, Same H3 H4 ∧ H4 D = some (.lst (zs.map V.int)) ∧ zs.length = i ∧ ∀ z ∈ zs, 0 ≤ z) ⟨[], Same.new hD, upd_same, rfl, by simp⟩ (fun i H4 _ ⟨_, e, _⟩ => SqL.of (e _ _ e3)) ?_ ?_
    · rintro i y H4 hi ⟨zs, sm, e4, hz4, hpos⟩
      obtain ⟨c, hc, rfl⟩ := int_of hi
      have hi63 : i < 63 := by
        have q := (List.getElem?_eq_some_iff.mp hc).1
        rw [List.length_take] at q
        omega
      refine ⟨rfl, _, rfl, .inl ⟨_, rfl, _, rfl, _, e4, by rw [List.length_map, hz4]; exact small1000 (by omega), ?_⟩⟩
      refine ⟨zs ++ [if c < 0 then -c else c], fun b o h => ?_, by rw [upd_same, List.map_append]; rfl, by rw [List.length_append, hz4]; rfl, fun z hz => ?_⟩
      · rw [upd_ne (ne_of_none h hD)]; exact sm b o h
      · rcases List.mem_append.mp hz with q | q
        · exact hpos z q
        · rw [List.mem_singleton.mp q]
          split <;> omega
    · rintro H4 ⟨zs, sm, e4, hz4, hpos⟩
      refine ⟨(by show 5 ≤ sizeLine; decide), fun q hq => ?_⟩
      refine k q D _ ⟨zs, 0, 0, 1, 0, upd_same, ?_, ?_, hpos, by omega, by omega, by omega, by omega, by omega⟩ ?_
      · rw [upd_ne (ne_of_none e4 hq)]; exact e4
      · exact (ne_of_none e4 hq).symm
      · exact fun b o h => by rw [upd_ne (ne_of_none (sm _ _ (sp1 _ _ h)) hq)]; exact sm _ _ (sp1 _ _ h)
abbrev sLawRare : Stmt := top 37
theorem scLawRare : FnScope ["script", "many", "found", "cell"] ["script", "many"] (defScope sLawRare) := ⟨rfl, rfl, rfl, by decide +kernel, rfl, by decide +kernel, by decide +kernel⟩

theorem ok_rare {f : Addr} {fd : FuncData} (F : Fun K "_law_rare" "_law_rare" sLawRare f fd) (T : Txt mg) : FnOk P w K mg base CX0 1 f fd ["script", "many"] (spRare K) := by
  refine F.ok scLawRare (fun vs H Q E h => ?_) (fun cdv A outer s H vs Q E hr h => ?_)
  · obtain ⟨a, ns, m, rfl, _⟩ := h
    rfl
  · obtain ⟨a, ns, m, rfl, hS, hlen, hm, k⟩ := h
    refine ⟨_, (pss_cons (ps_set (i := 2) scLawRare.nd rfl (by first | exact Or.inl rfl | exact Or.inr rfl) (pe_op op_add (pe_callB call_len rfl T.len PySem.boot_len (pa_cons (pv 0) pa_nil)) pe_int))
      (pss_cons (ps_for PassesOwn.never rfl (pi_list (pe_slice sl_list (pv 0) po_none (po_some pe_int))) (pg_name (i := 3) scLawRare.nd rfl (by first | exact Or.inl rfl | exact Or.inr rfl)) (pss_one (ps_set (i := 2) scLawRare.nd rfl (by first | exact Or.inl rfl | exact Or.inr rfl) (pe_op op_mod (pe_callTy call_int1 rfl T.int (by decide +kernel) (pa_cons (pe_op op_add (pe_op op_add (pe_op op_mul (pv 2) pe_int) (pe_op op_mod (pe_callTy call_int1 rfl T.int (by decide +kernel) (pa_cons (pv 3) pa_nil)) pe_int)) pe_int) pa_nil)) pe_int))))
      (pss_one (ps_ret (pe_op op_mod (pe_callTy call_int1 rfl T.int (by decide +kernel) (pa_cons (pe_op op_fdiv (pv 2) pe_int) pa_nil)) (pv 1)))))), ?_⟩
    refine ⟨_, rfl, _, _, rfl, .inl ⟨_, hS, rfl⟩, _, _, rfl, rfl, ?_⟩
    refine ⟨_, rfl, _, rfl, _, _, rfl, hS, fun p hp => ⟨_, rfl, ⟨_, SqL.of upd_same⟩, ?_⟩⟩
    have sp0 : Same H (upd H p (.lst (cutV (ns.map V.int) none (some 63)))) := Same.new hp
    generalize hH1 : upd H p (.lst (cutV (ns.map V.int) none (some 63))) = H1 at sp0
    have e1 : H1 p = some (.lst ((ns.take 63).map V.int)) := by rw [← hH1, cut63]; exact upd_same
    clear hH1
    refine for_list (K := K) (a := p) (xs := (ns.take 63).map V.int) (fun i σ H2 => H2 = H1 ∧ ∃ (z : Int) (v : Option V), σ = [some (.ref a), some (.int m), some (.int z), v]) ⟨rfl, _, none, rfl⟩ (fun i σ H2 _ ⟨e, _⟩ => by rw [e]; exact SqL.of e1) ?_ ?_
    · rintro i y σ H2 hi ⟨rfl, z, v, rfl⟩
      obtain ⟨c, hc, rfl⟩ := int_of hi
      refine ⟨_, rfl, _, _, rfl, rfl, .inr ⟨by decide, by decide⟩, _, rfl, .inl ⟨_, rfl, _, _, rfl, rfl, (by show (0 : Int) < 2147483629; decide), _, _, rfl, rfl, _, _, rfl, rfl, .inl ⟨_, rfl, _, _, rfl, rfl, (by show (0 : Int) < 2147483647; decide), ?_⟩⟩⟩
      exact ⟨rfl, _, some (.int c), rfl⟩
    · rintro σ H2 ⟨rfl, z, v, rfl⟩
      refine ⟨_, rfl, _, _, rfl, rfl, ⟨by decide, by decide⟩, .inl ⟨_, rfl, _, rfl, _, _, rfl, rfl, hm, ?_⟩⟩
      obtain ⟨b1, b2⟩ := mod_bd (z / 7) hm
      exact k _ H2 b1 b2 sp0
end
end Xci

namespace Xci
open PySem L2

def spFamilyM : Sp := fun vs H Q _ => ∃ (a l : Addr) (mm mc : Int), vs = [.ref a, .int mm, .int mc] ∧ Dice H a l ∧ 0 ≤ mm ∧ mm ≤ 6 ∧ 1 ≤ mc ∧ mc ≤ 24 ∧
  ∀ (v : V) (p : Addr) (many : Int) (ys : List V) (cells : List (List Int)) (H' : Hp), Tup H' v [.int many, .ref p] → H' p = some (.tup ys) → Mks H' ys cells → FamOk many cells → many ≤ mm → (cells.length : Int) ≤ mc → Dice H' a l → Fr a H H' → Q v H'
section
variable {P : Program} {w : World} {K : PySem.W.Frag} {mg : Str → Option Value} {base : Heap}
abbrev sLawWithin : Stmt := top 38
theorem scLawWithin : FnScope ["one", "other", "mark"] ["one", "other"] (defScope sLawWithin) := ⟨rfl, rfl, rfl, by decide +kernel, rfl, by decide +kernel, by decide +kernel⟩

theorem out_nil (ms ns : List Int) : decide (V.int (((ms.filter fun m => !decide (m ∈ ns)).length : Nat) : Int) = V.int 0) = inside ms ns := by
  unfold inside
  induction ms with
  | nil => rfl
  | cons m r ih =>
    rw [List.all_cons, List.filter_cons]
    by_cases h : m ∈ ns
    · simp only [h, decide_true, Bool.not_true, Bool.true_and]
      exact ih
    · simp [h]
      omega
theorem ok_within {f : Addr} {fd : FuncData} (F : Fun K "_law_within" "_law_within" sLawWithin f fd) (T : Txt mg) : FnOk P w K mg base CX0 1 f fd ["one", "other"] spIn := by
  refine F.ok scLawWithin (fun vs H Q E h => ?_) (fun cdv A outer s H vs Q E hr h => ?_)
  · obtain ⟨u, v, ms, ns, rfl, _⟩ := h
    rfl
  · obtain ⟨u, v, ms, ns, rfl, ⟨p, rfl, hp⟩, ⟨q, rfl, hq⟩, hl, k⟩ := h
    refine ⟨_, (pss_one (ps_ret (pe_cmpR op_eq (pe_callB call_len rfl T.len PySem.boot_len (pa_cons (pe_lc (own := [("mark", 2)]) rfl scLawWithin.nd (pi_tup (pv 0)) (blkOk_by (N := ["one", "other", "mark"]) (sc := defScope sLawWithin) (by decide +kernel)) (fun _ _ _ _ _ => (pg_name (i := 2) scLawWithin.nd rfl (by first | exact Or.inl rfl | exact Or.inr rfl))) (fun _ _ _ _ _ => pts_one (pt_cmpR (show OpR _ _ (rIn K true) from op_notIn_seq) (pv 2) (pv 1) (by with_unfolding_all rfl))) (fun _ _ _ _ _ => (pv 2))) pa_nil)) pe_int (nomark _)))), ?_⟩
    refine ⟨_, rfl, p, rfl, ⟨_, sqT hp⟩, fun D hD => ?_⟩
    refine lc_tup (K := K) (a := p) (xs := ms.map V.int) (fun i H4 => Same H H4 ∧ H4 D = some (.lst ((lessM (ms.take i) ns).map V.int))) ⟨Same.new hD, upd_same⟩ (fun i H4 _ ⟨e, _⟩ => sqT (e _ _ hp)) ?_ ?_
    · rintro i y H4 hi ⟨sm, e4⟩
      obtain ⟨m, hm, rfl⟩ := int_of hi
      have lt := (List.getElem?_eq_some_iff.mp hm).1
      have ll := lessM_len ms ns i
      refine ⟨rfl, _, rfl, _, rfl, q, _, rfl, .inr (sqT (sm _ _ hq)), rfl, flat_ints ns, _, rfl, ?_⟩
      rw [inV_int, lessM_next ns hm]
      refine ite2 (fun hn => ?_) (fun hn => ?_)
      · refine ⟨_, rfl, _, e4, by rw [List.length_map]; exact small1000 (by omega), fun b o h => by rw [upd_ne (ne_of_none h hD)]; exact sm b o h, ?_⟩
        rw [upd_same, if_pos (show (!decide (m ∈ ns)) = true from hn), List.map_append]
        rfl
      · refine ⟨sm, ?_⟩
        rw [if_neg (show ¬ (!decide (m ∈ ns)) = true from hn), List.append_nil]
        exact e4
    · rintro H4 ⟨sm, e4⟩
      rw [List.length_map, List.take_length] at e4
      refine ⟨_, _, rfl, .inl ⟨_, SqL.of e4, rfl⟩, rfl, ?_⟩
      rw [List.length_map]
      unfold lessM
      rw [out_nil]
      exact k H4 sm
abbrev sLawOrder : Stmt := top 39
theorem scLawOrder : FnScope ["dice", "many", "left", "found", "turn"] ["dice", "many"] (defScope sLawOrder) := ⟨rfl, rfl, rfl, by decide +kernel, rfl, by decide +kernel, by decide +kernel⟩

theorem erase_map {α β : Type} (f : α → β) : ∀ (l : List α) (j : Nat), (l.map f).eraseIdx j = (l.eraseIdx j).map f
  | [], _ => rfl
  | _ :: _, 0 => rfl
  | x :: l, j + 1 => by
    show f x :: (l.map f).eraseIdx j = f x :: (l.eraseIdx j).map f
    rw [erase_map f l j]
theorem ok_order {f : Addr} {fd : FuncData} (F : Fun K "_law_order" "_law_order" sLawOrder f fd) (T : Txt mg) (HT : Has P w K mg base "_law_draw" ["dice", "sides"] 1 spDraw) : FnOk P w K mg base CX0 2 f fd ["dice", "many"] spOrder := by
  refine F.ok scLawOrder (fun vs H Q E h => ?_) (fun cdv A outer s H vs Q E hr h => ?_)
  · obtain ⟨a, l, m, rfl, _⟩ := h
    rfl
  · obtain ⟨a, ld, m, rfl, hd, hm, k⟩ := h
    refine ⟨_, (pss_cons (ps_set (i := 2) scLawOrder.nd rfl (by first | exact Or.inl rfl | exact Or.inr rfl) (pe_listRg rfl rfl T.list (prg_1 rfl T.range (pv 1))))
      (pss_cons (ps_set (i := 3) scLawOrder.nd rfl (by first | exact Or.inl rfl | exact Or.inr rfl) (pe_lst pa_nil))
      (pss_cons (ps_for PassesOwn.never rfl (pi_range1 rfl T.range (pa_cons (pv 1) pa_nil)) (pg_name (i := 4) scLawOrder.nd rfl (by first | exact Or.inl rfl | exact Or.inr rfl)) (pss_one (ps_expr (pe_bm PySem.F.plainAttrs_list PySem.F.slot_list_append PySem.F.type_list_append mt_append (pv 3) (pa_cons (pe_bm PySem.F.plainAttrs_list PySem.F.slot_list_pop PySem.F.type_list_pop mt_popAt (pv 2) (pa_cons (pe_callH HT (hr.mono (by decide)) rfl (pa_cons (pv 0) (pa_cons (pe_callB call_len rfl T.len PySem.boot_len (pa_cons (pv 2) pa_nil)) pa_nil))) pa_nil)) pa_nil)))))
      (pss_one (ps_ret (pv 3)))))), ?_⟩
    refine ⟨_, rfl, _, rfl, RgOk.of_le (by omega) (by omega) (by omega) (by omega), fun l hl => ?_⟩
    have es : rgV 0 (m : Int) = (nat2 (List.range m)).map V.int := by
      rw [rgV_rng]
      unfold rng nat2
      rw [Int.toNat_natCast]
    rw [es]
    refine ⟨Nat.zero_le _, fun q hq => ?_⟩
    have d1 : Dice (upd (upd H l (.lst ((nat2 (List.range m)).map V.int))) q (.lst [])) a ld := (hd.keep (Same.new hl)).keep (Same.new hq)
    have f1 : Fr a H (upd (upd H l (.lst ((nat2 (List.range m)).map V.int))) q (.lst [])) := (Fr.new hl).trans (Fr.new hq)
    have nl : l ≠ a := hd.ne hl
    have hq0 : H q = Option.none := (Same.new hl).free hq
    have nq : q ≠ a := hd.ne hq0
    have ml : l ≠ ld := hd.ne' hl
    have mq : q ≠ ld := hd.ne' hq0
    have nlq : l ≠ q := ne_of_none upd_same hq
    have el : (upd (upd H l (.lst ((nat2 (List.range m)).map V.int))) q (.lst [])) l = some (.lst ((nat2 (List.range m)).map V.int)) := by rw [upd_ne nlq]; exact upd_same
    have eq : (upd (upd H l (.lst ((nat2 (List.range m)).map V.int))) q (.lst [])) q = some (.lst []) := upd_same
    generalize upd (upd H l (.lst ((nat2 (List.range m)).map V.int))) q (.lst []) = H1 at *
    refine ⟨_, rfl, _, rfl, by omega, by omega, ?_⟩
    refine for_range (n := ((m : Nat) : Int).toNat) (fun i σ H2 => ∃ (us ys : List Nat) (v : Option V), σ = [some (.ref a), some (.int (m : Int)), some (.ref l), some (.ref q), v] ∧ H2 l = some (.lst ((nat2 us).map V.int)) ∧ H2 q = some (.lst ((nat2 ys).map V.int)) ∧ Dice H2 a ld ∧ (∀ b o, H b = some o → b ≠ a → H2 b = some o) ∧ (ys ++ us).Perm (List.range m) ∧ ys.length = i)
      ⟨List.range m, [], none, rfl, el, eq, d1, f1, List.Perm.refl _, rfl⟩ ?_ ?_
    · rintro i σ H2 hi ⟨us, ys, v, rfl, e1, e2, hd2, f2, pm, hy⟩
      have hlen2 := pm.length_eq
      rw [List.length_append, List.length_range] at hlen2
      have hus : 0 < us.length := by omega
      have ul : ((nat2 us).map V.int).length = us.length := by rw [List.length_map, nat2_len]
      refine ⟨_, rfl, .inl ⟨rfl, _, SqL.of e2⟩, _, rfl, .inl ⟨rfl, _, SqL.of e1⟩, _, rfl, _, rfl, _, us.length, rfl, .inl ⟨_, SqL.of e1, ul.symm⟩, a, ld, _, rfl, hd2, by omega, by omega, fun d H3 d0 d1 hd3 f3 => ?_⟩
      obtain ⟨j, ej⟩ : ∃ j : Nat, d = (j : Int) := ⟨d.toNat, by omega⟩
      subst ej
      have hj : j < us.length := by omega
      have e1' := f3 _ _ e1 nl
      have e2' := f3 _ _ e2 nq
      have hx : us[j]? = some us[j] := List.getElem?_eq_getElem hj
      have hv : ((nat2 us).map V.int)[j]? = some (V.int ((us[j] : Nat) : Int)) := by
        unfold nat2
        rw [List.getElem?_map, List.getElem?_map, hx] <;> rfl
      refine ⟨l, _, _, j, V.int ((us[j] : Nat) : Int), rfl, rfl, e1', by omega, by omega, ?_, hv, ?_⟩
      · rw [ul]
        unfold seqIndex?
        simp
        try omega
      refine ⟨q, _, _, rfl, rfl, by rw [upd_ne nlq.symm]; exact e2', by rw [List.length_map, nat2_len]; exact small1000 (by omega), ?_⟩
      have ee : ((nat2 us).map V.int).eraseIdx j = (nat2 (us.eraseIdx j)).map V.int := by
        unfold nat2
        rw [erase_map, erase_map]
      refine ⟨us.eraseIdx j, ys ++ [us[j]], _, rfl, by rw [upd_ne nlq, upd_same, ee], by rw [upd_same, nat2_app, List.map_append]; rfl, ?_, fun b o h n => ?_, ?_, by rw [List.length_append, hy]; rfl⟩
      · exact (hd3.put nl ml).put nq mq
      · have nbl : b ≠ l := ne_of_none h hl
        have nbq : b ≠ q := ne_of_none h hq0
        rw [upd_ne nbq, upd_ne nbl]
        exact f3 _ _ (f2 _ _ h n) n
      · have p1 := perm_erase hx
        have p2 : (ys ++ [us[j]] ++ us.eraseIdx j).Perm (ys ++ us) := by
          rw [List.append_assoc]
          exact (List.perm_append_comm.trans p1).append_left ys
        exact p2.trans pm
    · rintro σ H2 ⟨us, ys, v, rfl, e1, e2, hd2, f2, pm, hy⟩
      have hlen2 := pm.length_eq
      rw [List.length_append, List.length_range] at hlen2
      have hus : us = [] := List.eq_nil_of_length_eq_zero (by omega)
      subst hus
      rw [List.append_nil] at pm
      exact ⟨_, rfl, k q ys H2 pm e2 hq0 hd2 f2⟩
abbrev sLawAllCells : Stmt := top 40
theorem scLawAllCells : FnScope ["many", "found", "mark", "cell"] ["many"] (defScope sLawAllCells) := ⟨rfl, rfl, rfl, by decide +kernel, rfl, by decide +kernel, by decide +kernel⟩

theorem rng_take (n : Int) (i : Nat) (h : i ≤ n.toNat) : (rng n).take i = rng (i : Int) := by
  unfold rng
  rw [← List.map_take, Int.toNat_natCast]
  congr 1
  refine List.ext_getElem? fun j => ?_
  by_cases hj : j < i
  · rw [List.getElem?_take_of_lt hj, List.getElem?_range (by omega), List.getElem?_range hj]
  · rw [List.getElem?_eq_none (by rw [List.length_take]; omega), List.getElem?_eq_none (by rw [List.length_range]; omega)]
theorem rng_next (i : Nat) : rng ((i + 1 : Nat) : Int) = rng (i : Int) ++ [(i : Int)] := by
  unfold rng
  rw [Int.toNat_natCast, Int.toNat_natCast, List.range_succ, List.map_append]
  rfl
theorem ok_allCells {f : Addr} {fd : FuncData} (F : Fun K "_law_all_cells" "_law_all_cells" sLawAllCells f fd) (T : Txt mg) : FnOk P w K mg base CX0 1 f fd ["many"] spAllCells := by
  refine F.ok scLawAllCells (fun vs H Q E h => ?_) (fun cdv A outer s H vs Q E hr h => ?_)
  · obtain ⟨n, rfl, _⟩ := h
    rfl
  · obtain ⟨n, rfl, n0, n6, k⟩ := h
    refine ⟨_, (pss_cons (ps_set (i := 1) scLawAllCells.nd rfl (by first | exact Or.inl rfl | exact Or.inr rfl) (pe_lst (pa_cons (pe_tup pa_nil) pa_nil)))
      (pss_cons (ps_for PassesOwn.never rfl (pi_range1 rfl T.range (pa_cons (pv 0) pa_nil)) (pg_name (i := 2) scLawAllCells.nd rfl (by first | exact Or.inl rfl | exact Or.inr rfl)) (pss_one (ps_set (i := 1) scLawAllCells.nd rfl (by first | exact Or.inl rfl | exact Or.inr rfl) (pe_op op_cat (pv 1) (pe_lc (own := [("cell", 3)]) rfl scLawAllCells.nd (pi_list (pv 1)) (blkOk_by (N := ["many", "found", "mark", "cell"]) (sc := defScope sLawAllCells) (by decide +kernel)) (fun _ _ _ _ _ => (pg_name (i := 3) scLawAllCells.nd rfl (by first | exact Or.inl rfl | exact Or.inr rfl))) (fun _ _ _ _ _ => pts_nil) (fun _ _ _ _ _ => (pe_op (show OpR _ _ (rCatA K) from op_catA) (pv 3) (pe_tup (pa_cons (pv 2) pa_nil)))))))))
      (pss_one (ps_ret (pe_callB (cr_sortedTI (hu64 hr)) rfl T.sorted (by decide +kernel) (pa_cons (pv 1) pa_nil)))))), ?_⟩
    refine ⟨Nat.zero_le _, fun t ht => ⟨(by show 1 ≤ sizeLine; decide), fun q hq => ?_⟩⟩
    have s0 : Same H (upd (upd H t (.tup [])) q (.lst [.ref t])) := (Same.new ht).trans (Same.new hq)
    have et : (upd (upd H t (.tup [])) q (.lst [.ref t])) t = some (.tup []) := by rw [upd_ne (ne_of_none upd_same hq)]; exact upd_same
    have eq : (upd (upd H t (.tup [])) q (.lst [.ref t])) q = some (.lst [.ref t]) := upd_same
    generalize upd (upd H t (.tup [])) q (.lst [.ref t]) = H1 at *
    refine ⟨_, rfl, _, rfl, by omega, by omega, ?_⟩
    refine for_range (n := n.toNat) (fun i σ H2 => ∃ (u : Addr) (ys : List V) (v : Option V), σ = [some (.int n), some (.ref u), v, none] ∧ Same H H2 ∧ H2 u = some (.lst ys) ∧ Mks H2 ys (lots (rng (i : Int))))
      ⟨q, [.ref t], none, rfl, s0, eq, Paired.one ⟨t, rfl, et⟩⟩ ?_ ?_
    · rintro i σ H2 hi ⟨u, ys, v, rfl, sm, eu, hm⟩
      have hys : ys.length ≤ 64 := by
        have e := Paired.length hm
        rw [lots_len, rng_len, Int.toNat_natCast] at e
        have : 2 ^ i ≤ 2 ^ 6 := Nat.pow_le_pow_right (by decide) (by omega)
        omega
      rw [Int.zero_add]
      refine ⟨_, rfl, _, rfl, u, rfl, ⟨_, SqL.of eu⟩, fun D hD => ?_⟩
      refine lc_list (K := K) (a := u) (xs := ys) (fun j H4 => ∃ zs : List V, Same H2 H4 ∧ H4 D = some (.lst zs) ∧ Mks H4 zs (((lots (rng (i : Int))).take j).map (· ++ [(i : Int)]))) ⟨[], Same.new hD, upd_same, .nil⟩ (fun j H4 _ ⟨_, e, _⟩ => SqL.of (e _ _ eu)) ?_ ?_
      · rintro j lot H4 hj ⟨zs, sm4, e4, m4⟩
        obtain ⟨ms, hms, tl⟩ := Paired.get hm hj
        obtain ⟨tp, rfl, htp⟩ := tl
        have htp4 := sm4 _ _ htp
        have hjl := (List.getElem?_eq_some_iff.mp hj).1
        have hzl : zs.length ≤ 64 := by
          have e := Paired.length m4
          rw [List.length_map, List.length_take] at e
          omega
        have et : ((lots (rng (i : Int))).take (j + 1)).map (· ++ [(i : Int)]) = ((lots (rng (i : Int))).take j).map (· ++ [(i : Int)]) ++ [ms ++ [(i : Int)]] := by
          rw [List.take_add_one, hms, List.map_append]
          rfl
        refine ⟨rfl, _, rfl, _, rfl, (by show 1 ≤ sizeLine; decide), fun r hr => ?_⟩
        have e5 : (upd H4 r (.tup [.int (i : Int)])) r = some (.tup [.int (i : Int)]) := upd_same
        have sm5 : Same H4 (upd H4 r (.tup [.int (i : Int)])) := Same.new hr
        generalize upd H4 r (.tup [.int (i : Int)]) = H5 at *
        have mkl : ms.length ≤ 64 := by
          have q := (lots_sub (List.mem_of_getElem? hms)).length_le
          rw [rng_len] at q
          omega
        refine cat_of (sm5 _ _ htp4) e5 (by rw [List.length_map]; show ms.length + 1 ≤ sizeLine; exact Nat.le_of_lt (small1000 (by omega))) fun z H6 e6 sm6 => ?_
        refine ⟨zs, sm6 _ _ (sm5 _ _ e4), small1000 (by omega), ?_⟩
        refine ⟨zs ++ [.ref z], fun b o h => by rw [upd_ne (ne_of_none h hD)]; exact sm6 _ _ (sm5 _ _ (sm4 _ _ h)), upd_same, ?_⟩
        rw [et]
        have tf : TFr H6 (upd H6 D (.lst (zs ++ [.ref z]))) := TFr.lst (sm6 _ _ (sm5 _ _ e4))
        exact Paired.app ((m4.keep (TFr.same (sm5.trans sm6))).keep tf) (Paired.one ⟨z, rfl, by rw [List.map_append]; exact tf _ _ e6⟩)
      · rintro H4 ⟨zs, sm4, e4, m4⟩
        rw [List.take_of_length_le (by rw [Paired.length hm]; exact Nat.le_refl _)] at m4
        have hzl := Paired.length m4
        rw [List.length_map, ← Paired.length hm] at hzl
        refine ⟨u, D, ys, zs, rfl, rfl, sm4 _ _ eu, e4, Nat.le_of_lt (small1000 (by omega)), fun r hr => ?_⟩
        have sr : Same H4 (upd H4 r (.lst (ys ++ zs))) := Same.new hr
        refine ⟨r, ys ++ zs, some (.int (i : Int)), rfl, (sm.trans sm4).trans sr, upd_same, ?_⟩
        rw [rng_next, lots_snoc]
        exact Paired.app (hm.keep (TFr.same (sm4.trans sr))) (m4.keep (TFr.same sr))
    · rintro σ H2 ⟨u, ys, v, rfl, sm, eu, hm⟩
      rw [show ((n.toNat : Nat) : Int) = n by omega] at hm
      refine ⟨_, rfl, sorted_rows (SqL.of eu) hm fun us cs r mu up perm free => ?_⟩
      exact k r us cs _ upd_same (mu.keep (TFr.new free)) perm (sm.trans (Same.new free)) (sm.free free)
abbrev sLawFamily : Stmt := top 41
theorem scLawFamily : FnScope ["dice", "most_marks", "most_cells", "many", "every", "size", "order", "at"] ["dice", "most_marks", "most_cells"] (defScope sLawFamily) := ⟨rfl, rfl, rfl, by decide +kernel, rfl, by decide +kernel, by decide +kernel⟩

theorem ok_family {f : Addr} {fd : FuncData} (F : Fun K "_law_family" "_law_family" sLawFamily f fd) (T : Txt mg) (HT : Has P w K mg base "_law_draw" ["dice", "sides"] 1 spDraw) (HL : Has P w K mg base "_law_all_cells" ["many"] 1 spAllCells)
    (HO : Has P w K mg base "_law_order" ["dice", "many"] 2 spOrder) : FnOk P w K mg base CX0 3 f fd ["dice", "most_marks", "most_cells"] spFamilyM := by
  refine F.ok scLawFamily (fun vs H Q E h => ?_) (fun cdv A outer s H vs Q E hr h => ?_)
  · obtain ⟨a, ld, mm, mc, rfl, _⟩ := h
    rfl
  · obtain ⟨a, ld, mm, mc, rfl, hd, a0, a6, b1, b24, k⟩ := h
    refine ⟨_, (C8.pss_cut (ps_set (i := 3) scLawFamily.nd rfl (by first | exact Or.inl rfl | exact Or.inr rfl) (pe_callH HT (hr.mono (by decide)) rfl (pa_cons (pv 0) (pa_cons (pe_op op_add (pv 1) pe_int) pa_nil))))
      (C8.pss_cut (ps_set (i := 4) scLawFamily.nd rfl (by first | exact Or.inl rfl | exact Or.inr rfl) (pe_callH HL (hr.mono (by decide)) rfl (pa_cons (pv 3) pa_nil)))
      (C8.pss_cut (ps_set (i := 5) scLawFamily.nd rfl (by first | exact Or.inl rfl | exact Or.inr rfl) (pe_op op_add pe_int (pe_callH HT (hr.mono (by decide)) rfl (pa_cons (pv 0) (pa_cons (pe_callB (call_min2 rfl) rfl T.min (by decide +kernel) (pa_cons (pv 2) (pa_cons (pe_callB call_len rfl T.len PySem.boot_len (pa_cons (pv 4) pa_nil)) pa_nil))) pa_nil)))))
      (C8.pss_cut (ps_if (pt_cmpR op_eq (pe_callH HT (hr.mono (by decide)) rfl (pa_cons (pv 0) (pa_cons pe_int pa_nil))) pe_int (nomark _)) (pss_one (ps_set (i := 5) scLawFamily.nd rfl (by first | exact Or.inl rfl | exact Or.inr rfl) (pe_callB (call_min2 rfl) rfl T.min (by decide +kernel) (pa_cons (pv 2) (pa_cons (pe_callB call_len rfl T.len PySem.boot_len (pa_cons (pv 4) pa_nil)) pa_nil))))) pss_nil)
      (C8.pss_cut (ps_set (i := 6) scLawFamily.nd rfl (by first | exact Or.inl rfl | exact Or.inr rfl) (pe_slice sl_list (pe_callH HO (hr.mono (by decide)) rfl (pa_cons (pv 0) (pa_cons (pe_callB call_len rfl T.len PySem.boot_len (pa_cons (pv 4) pa_nil)) pa_nil))) po_none (po_some (pv 5))))
      (C8.pss_cut (ps_if (pt_cmpR op_eq (pe_callH HT (hr.mono (by decide)) rfl (pa_cons (pv 0) (pa_cons pe_int pa_nil))) pe_int (nomark _)) (pss_one (ps_set (i := 6) scLawFamily.nd rfl (by first | exact Or.inl rfl | exact Or.inr rfl) (pe_callB cr_sortedI rfl T.sorted (by decide +kernel) (pa_cons (pv 6) pa_nil)))) pss_nil)
      (pss_one (ps_ret (pe_tup (pa_cons (pv 3) (pa_cons (pe_callTy call_tuple_of rfl T.tuple (by decide +kernel) (pa_cons (pe_lc (own := [("at", 7)]) rfl scLawFamily.nd (pi_list (pv 6)) (blkOk_by (N := ["dice", "most_marks", "most_cells", "many", "every", "size", "order", "at"]) (sc := defScope sLawFamily) (by decide +kernel)) (fun _ _ _ _ _ => (pg_name (i := 7) scLawFamily.nd rfl (by first | exact Or.inl rfl | exact Or.inr rfl))) (fun _ _ _ _ _ => pts_nil) (fun _ _ _ _ _ => (pe_ix (show IxR _ (rIxL K) from ix_list) (pv 4) (pv 7) (fun _ _ => rfl)))) pa_nil)) pa_nil))))))))))), ?_⟩
    refine ⟨fun σ' H1 => ∃ n : Int, 0 ≤ n ∧ n ≤ 6 ∧ n ≤ mm ∧ Dice H1 a ld ∧ Fr a H H1 ∧ σ' = [some (.ref a), some (.int mm), some (.int mc), some (.int n), none, none, none, none], ?_, ?_⟩
    · refine ⟨_, rfl, _, rfl, _, _, rfl, rfl, a, ld, _, rfl, hd, by omega, by omega, fun d H1 d0 d1 hd1 f1 => ⟨d, d0, by omega, by omega, hd1, f1, rfl⟩⟩
    rintro σ' H1 ⟨n, n0, n6, nmm, hd1, f1, rfl⟩
    refine ⟨fun σ' H2 => ∃ (q : Addr) (ys : List V) (cs : List (List Int)), H2 q = some (.lst ys) ∧ Mks H2 ys cs ∧ cs.Perm (lots (rng n)) ∧ q ≠ a ∧ Dice H2 a ld ∧ Fr a H H2 ∧ σ' = [some (.ref a), some (.int mm), some (.int mc), some (.int n), some (.ref q), none, none, none], ?_, ?_⟩
    · exact ⟨_, rfl, n, rfl, n0, n6, fun q ys cs H2 eq mq perm s2 free => ⟨q, ys, cs, eq, mq, perm, hd1.ne free, hd1.keep s2, f1.trans (Fr.same s2), rfl⟩⟩
    rintro σ' H2 ⟨q, ys, cs, eq, mq, perm, qa, hd2, f2, rfl⟩
    have ylen : ys.length = 2 ^ n.toNat := by rw [Paired.length mq, perm.length_eq, lots_len, rng_len]
    have y64 : 1 ≤ ys.length ∧ ys.length ≤ 64 := by
      rw [ylen]
      exact ⟨Nat.one_le_two_pow, (Nat.pow_le_pow_right (by decide) (by omega) : 2 ^ n.toNat ≤ 2 ^ 6)⟩
    have cl : cs.length = ys.length := (Paired.length mq).symm
    clear hd1 f1
    refine ⟨fun σ' H3 => ∃ z : Nat, 1 ≤ z ∧ z ≤ ys.length ∧ (z : Int) ≤ mc ∧ H3 q = some (.lst ys) ∧ Mks H3 ys cs ∧ Dice H3 a ld ∧ Fr a H H3 ∧ σ' = [some (.ref a), some (.int mm), some (.int mc), some (.int n), some (.ref q), some (.int (z : Int)), none, none], ?_, ?_⟩
    · refine ⟨_, rfl, _, rfl, _, rfl, _, ys.length, rfl, .inl ⟨_, SqL.of eq, rfl⟩, _, _, rfl, a, ld, _, rfl, hd2, by split <;> omega, by split <;> omega, fun d H3 d0 d1 hd3 f3 => ?_⟩
      refine ⟨_, _, rfl, rfl, ?_⟩
      have dlt : d < (ys.length : Int) ∧ d < mc := by
        split at d1 <;> omega
      obtain ⟨z, ez⟩ : ∃ z : Nat, 1 + d = (z : Int) := ⟨(1 + d).toNat, by omega⟩
      exact ⟨z, by omega, by omega, by omega, f3 _ _ eq qa, mq.keep (hd2.tfr f3), hd3, f2.trans f3, congrArg (fun t => [some (V.ref a), some (V.int mm), some (V.int mc), some (V.int n), some (V.ref q), some (V.int t), none, none]) ez⟩
    clear hd2 f2 eq mq
    rintro σ' H3 ⟨z, z1, z2, z3, eq, mq, hd3, f3, rfl⟩
    refine ⟨fun σ' H4 => ∃ z : Nat, 1 ≤ z ∧ z ≤ ys.length ∧ (z : Int) ≤ mc ∧ H4 q = some (.lst ys) ∧ Mks H4 ys cs ∧ Dice H4 a ld ∧ Fr a H H4 ∧ σ' = [some (.ref a), some (.int mm), some (.int mc), some (.int n), some (.ref q), some (.int (z : Int)), none, none], ?_, ?_⟩
    · refine ⟨_, rfl, a, ld, _, rfl, hd3, by decide, by decide, fun d H4 d0 d1 hd4 f4 => ⟨rfl, _, rfl, ?_⟩⟩
      have eq4 := f4 _ _ eq qa
      have mq4 := mq.keep (hd3.tfr f4)
      refine ite2 (fun _ => ?_) (fun _ => ⟨z, z1, z2, z3, eq4, mq4, hd4, f3.trans f4, rfl⟩)
      refine ⟨_, rfl, _, rfl, _, ys.length, rfl, .inl ⟨_, SqL.of eq4, rfl⟩, _, _, rfl, ?_⟩
      obtain ⟨t, et⟩ : ∃ t : Nat, (if ((ys.length : Nat) : Int) < mc then ((ys.length : Nat) : Int) else mc) = (t : Int) := by
        split
        · exact ⟨ys.length, rfl⟩
        · exact ⟨mc.toNat, by omega⟩
      refine ⟨t, ?_, ?_, ?_, eq4, mq4, hd4, f3.trans f4, congrArg (fun t => [some (V.ref a), some (V.int mm), some (V.int mc), some (V.int n), some (V.ref q), some (V.int t), none, none]) et⟩
      all_goals (split at et <;> omega)
    clear z z1 z2 z3 eq mq hd3 f3
    rintro σ' H4 ⟨z, z1, z2, z3, eq, mq, hd4, f4, rfl⟩
    refine ⟨fun σ' H5 => ∃ (r : Addr) (js : List Nat), H5 r = some (.lst ((nat2 js).map V.int)) ∧ r ≠ a ∧ js.Nodup ∧ js.length = z ∧ (∀ j ∈ js, j < ys.length) ∧ H5 q = some (.lst ys) ∧ Mks H5 ys cs ∧ Dice H5 a ld ∧ Fr a H H5 ∧ σ' = [some (.ref a), some (.int mm), some (.int mc), some (.int n), some (.ref q), some (.int (z : Int)), some (.ref r), none], ?_, ?_⟩
    · refine ⟨_, rfl, _, rfl, _, ys.length, rfl, .inl ⟨_, SqL.of eq, rfl⟩, a, ld, _, rfl, hd4, by omega, fun r js H5 pj er free hd5 f5 => ?_⟩
      refine ⟨_, rfl, _, rfl, r, _, rfl, SqL.of er, fun u hu => ?_⟩
      have su : Same H5 (upd H5 u (.lst (cutV ((nat2 js).map V.int) none (some (z : Int))))) := Same.new hu
      have ce : cutV ((nat2 js).map V.int) none (some (z : Int)) = (nat2 (js.take z)).map V.int := by
        rw [cutTo]
        unfold nat2
        rw [List.map_take, List.map_take]
      have jl : js.length = ys.length := by rw [pj.length_eq, List.length_range]
      refine ⟨u, js.take z, by rw [upd_same, ce], hd5.ne hu, (pj.nodup_iff.mpr List.nodup_range).sublist (List.take_sublist _ _), by rw [List.length_take]; omega, fun j hj => List.mem_range.mp (pj.subset (List.mem_of_mem_take hj)), su _ _ (f5 _ _ eq qa), (mq.keep (hd4.tfr f5)).keep (TFr.same su), hd5.keep su, (f4.trans f5).trans (Fr.same su), rfl⟩
    clear eq mq hd4 f4
    rintro σ' H5 ⟨r, js, er, ra, nd, jl, jlt, eq, mq, hd5, f5, rfl⟩
    refine ⟨fun σ' H6 => ∃ (r : Addr) (js : List Nat), H6 r = some (.lst ((nat2 js).map V.int)) ∧ js.Nodup ∧ js.length = z ∧ (∀ j ∈ js, j < ys.length) ∧ H6 q = some (.lst ys) ∧ Mks H6 ys cs ∧ Dice H6 a ld ∧ Fr a H H6 ∧ σ' = [some (.ref a), some (.int mm), some (.int mc), some (.int n), some (.ref q), some (.int (z : Int)), some (.ref r), none], ?_, ?_⟩
    · refine ⟨_, rfl, a, ld, _, rfl, hd5, by decide, by decide, fun d H6 d0 d1 hd6 f6 => ⟨rfl, _, rfl, ?_⟩⟩
      have eq6 := f6 _ _ eq qa
      have mq6 := mq.keep (hd5.tfr f6)
      have er6 := f6 _ _ er ra
      refine ite2 (fun _ => ?_) (fun _ => ⟨r, js, er6, nd, jl, jlt, eq6, mq6, hd6, f5.trans f6, rfl⟩)
      refine ⟨_, rfl, r, nat2 js, rfl, SqL.of er6, fun ns' u pu _ hu => ?_⟩
      have su : Same H6 (upd H6 u (.lst (ns'.map V.int))) := Same.new hu
      obtain ⟨ks, ek, pk⟩ : ∃ ks : List Nat, ns' = nat2 ks ∧ ks.Perm js := by
        refine ⟨ns'.map Int.toNat, ?_, ?_⟩
        · unfold nat2
          rw [List.map_map]
          refine (List.map_id ns').symm.trans (List.map_congr_left fun x hx => ?_)
          obtain ⟨j, _, rfl⟩ := List.mem_map.mp (pu.subset hx)
          show ((j : Nat) : Int) = (((j : Int).toNat : Nat) : Int)
          rw [Int.toNat_natCast]
        · have p2 := pu.map Int.toNat
          have e : (nat2 js).map Int.toNat = js := by
            unfold nat2
            rw [List.map_map]
            exact (List.map_congr_left fun j _ => Int.toNat_natCast j).trans (List.map_id js)
          rwa [e] at p2
      subst ek
      exact ⟨u, ks, upd_same, pk.nodup_iff.mpr nd, by rw [pk.length_eq]; exact jl, fun j hj => jlt j (pk.subset hj), su _ _ eq6, mq6.keep (TFr.same su), hd6.keep su, (f5.trans f6).trans (Fr.same su), rfl⟩
    clear er ra nd jl jlt eq mq hd5 f5 js r
    rintro σ' H6 ⟨r, js, er, nd, jl, jlt, eq, mq, hd6, f6, rfl⟩
    refine ⟨_, rfl, _, rfl, r, rfl, ⟨_, SqL.of er⟩, fun D hD => ?_⟩
    refine lc_list (K := K) (a := r) (xs := (nat2 js).map V.int) (fun i H7 => Same H6 H7 ∧ H7 D = some (.lst ((js.take i).map fun j => ys.getD j .non))) ⟨Same.new hD, upd_same⟩ (fun i H7 _ ⟨e, _⟩ => SqL.of (e _ _ er)) ?_ ?_
    · rintro i x H7 hi ⟨s7, e7⟩
      obtain ⟨j, hj, rfl⟩ := num_of hi
      have jy := jlt j (List.mem_of_getElem? hj)
      have yat : ys[j]? = some (ys.getD j .non) := by rw [List.getD_eq_getElem?_getD, List.getElem?_eq_getElem jy] <;> rfl
      refine ⟨rfl, _, rfl, _, rfl, q, _, _, _, rfl, rfl, SqL.of (s7 _ _ eq), at_of (j := j) rfl yat, ?_⟩
      refine ⟨_, e7, by rw [List.length_map]; exact small1000 (Nat.le_trans (List.length_take_le _ _) (by have := (List.getElem?_eq_some_iff.mp hj).1; omega)), fun b o h => by rw [upd_ne (ne_of_none h hD)]; exact s7 b o h, ?_⟩
      rw [upd_same, List.take_add_one, hj, List.map_append]
      rfl
    · rintro H7 ⟨s7, e7⟩
      rw [List.length_map, nat2_len, List.take_length] at e7
      refine ⟨D, _, rfl, .inl ⟨SqL.of e7, fun p hp => ?_⟩⟩
      have s8 : Same H7 (upd H7 p (.tup (js.map fun j => ys.getD j .non))) := Same.new hp
      have e8 : (upd H7 p (.tup (js.map fun j => ys.getD j .non))) p = some (.tup (js.map fun j => ys.getD j .non)) := upd_same
      generalize upd H7 p (.tup (js.map fun j => ys.getD j .non)) = H8 at *
      refine ⟨(by show 2 ≤ sizeLine; decide), fun v hv => ?_⟩
      have s9 : Same H8 (upd H8 v (.tup [.int n, .ref p])) := Same.new hv
      have s69 := (s7.trans s8).trans s9
      have placed : Mks (upd H8 v (.tup [.int n, .ref p])) (js.map fun j => ys.getD j .non) (cellsAt cs js) := Mks.keep (TFr.same s69) (cells_placed mq js fun j hj => by have := jlt j hj; omega)
      have csnd : cs.Nodup := perm.nodup_iff.mpr (lots_nd (rng_ok n).nd)
      have at_ : ∀ j ∈ js, cs[j]? = some (cs.getD j []) := fun j hj => by
        have := jlt j hj
        rw [List.getD_eq_getElem?_getD, List.getElem?_eq_getElem (show j < cs.length by omega)] <;> rfl
      refine k (.ref v) p n _ (cellsAt cs js) _ ⟨v, rfl, upd_same⟩ (s9 _ _ e8) placed ⟨n0, n6, ?_, ?_, ?_, fun c hc => ?_⟩ nmm (by unfold cellsAt; rw [List.length_map]; omega) (hd6.keep s69) (f6.trans (Fr.same s69))
      · intro e
        have := congrArg List.length e
        unfold cellsAt at this
        rw [List.length_map, List.length_nil] at this
        omega
      · unfold cellsAt
        rw [List.length_map]
        omega
      · unfold cellsAt List.Nodup
        rw [List.pairwise_map]
        refine List.Pairwise.imp_of_mem (fun {x y} hx hy ne e => ne ?_) nd
        have ax := at_ x hx
        have ay := at_ y hy
        rw [e] at ax
        exact (List.getElem?_inj (List.getElem?_eq_some_iff.mp ax).1 csnd).mp (ax.trans ay.symm)
      · obtain ⟨j, hj, rfl⟩ := List.mem_map.mp hc
        exact (rng_ok n).sub (lots_sub (perm.subset (List.mem_of_getElem? (at_ j hj))))
end
end Xci

namespace Xci
open PySem L2

section
variable {P : Program} {w : World} {K : PySem.W.Frag} {mg : Str → Option Value} {base : Heap}
abbrev sLawSome : Stmt := top 43
theorem scLawSome : FnScope ["dice", "marks", "mark"] ["dice", "marks"] (defScope sLawSome) := ⟨rfl, rfl, rfl, by decide +kernel, rfl, by decide +kernel, by decide +kernel⟩

theorem ok_someT {f : Addr} {fd : FuncData} (F : Fun K "_law_some" "_law_some" sLawSome f fd) (T : Txt mg) (HT : Has P w K mg base "_law_draw" ["dice", "sides"] 1 spDraw) : FnOk P w K mg base CX0 2 f fd ["dice", "marks"] spSomeT := by
  refine F.ok scLawSome (fun vs H Q E h => ?_) (fun cdv A outer s H vs Q E hr h => ?_)
  · obtain ⟨a, ld, v, ms, rfl, _⟩ := h
    rfl
  · obtain ⟨a, ld, v, ms, rfl, hd, ⟨p, rfl, hp⟩, few, k⟩ := h
    refine ⟨_, (pss_one (ps_ret (pe_callTy call_tuple_of rfl T.tuple (by decide +kernel) (pa_cons (pe_lc (own := [("mark", 2)]) rfl scLawSome.nd (pi_tup (pv 1)) (blkOk_by (N := ["dice", "marks", "mark"]) (sc := defScope sLawSome) (by decide +kernel)) (fun _ _ _ _ _ => (pg_name (i := 2) scLawSome.nd rfl (by first | exact Or.inl rfl | exact Or.inr rfl))) (fun _ _ _ _ _ => pts_one (pt_cmpR op_eq (pe_callH HT (hr.mono (by decide)) rfl (pa_cons (pv 0) (pa_cons pe_int pa_nil))) pe_int (nomark _))) (fun _ _ _ _ _ => (pv 2))) pa_nil)))), ?_⟩
    refine ⟨_, rfl, p, rfl, ⟨_, sqT hp⟩, fun D hD => ?_⟩
    have nD := hd.ne hD
    have mD := hd.ne' hD
    refine lc_tup (K := K) (a := p) (xs := ms.map V.int) (fun i H4 => ∃ ks : List Int, Dice H4 a ld ∧ Fr a H H4 ∧ H4 D = some (.lst (ks.map V.int)) ∧ ks.Sublist (ms.take i)) ⟨[], hd.keep (Same.new hD), Fr.new hD, upd_same, List.nil_sublist _⟩ (fun i H4 _ ⟨_, _, f4, _⟩ => sqT (hd.tfr f4 _ _ hp)) ?_ ?_
    · rintro i y H4 hi ⟨ks, hd4, f4, e4, sub⟩
      obtain ⟨m, hm, rfl⟩ := int_of hi
      have lt := (List.getElem?_eq_some_iff.mp hm).1
      have kl := sub.length_le
      rw [List.length_take] at kl
      refine ⟨rfl, _, rfl, a, ld, _, rfl, hd4, by decide, by decide, fun d H5 d0 d1 hd5 f5 => ⟨rfl, _, rfl, ?_⟩⟩
      rw [List.take_add_one, hm]
      refine ite2 (fun _ => ?_) (fun _ => ⟨ks, hd5, f4.trans f5, f5 _ _ e4 nD, sub.trans (List.sublist_append_left _ _)⟩)
      refine ⟨_, rfl, _, f5 _ _ e4 nD, by rw [List.length_map]; exact small1000 (by omega), ks ++ [m], hd5.put nD mD, fun b o h n => by rw [upd_ne (ne_of_none h hD)]; exact f5 _ _ (f4 _ _ h n) n, by rw [upd_same, List.map_append]; rfl, List.Sublist.append sub (List.Sublist.refl _)⟩
    · rintro H4 ⟨ks, hd4, f4, e4, sub⟩
      rw [List.length_map, List.take_length] at sub
      exact ⟨D, _, rfl, .inl ⟨SqL.of e4, fun l hl => k _ ks _ ⟨l, rfl, upd_same⟩ sub (hd4.keep (Same.new hl)) (f4.trans (Fr.new hl))⟩⟩
theorem ok_someL {f : Addr} {fd : FuncData} (F : Fun K "_law_some" "_law_some" sLawSome f fd) (T : Txt mg) (HT : Has P w K mg base "_law_draw" ["dice", "sides"] 1 spDraw) : FnOk P w K mg base CX0 2 f fd ["dice", "marks"] spSomeL := by
  refine F.ok scLawSome (fun vs H Q E h => ?_) (fun cdv A outer s H vs Q E hr h => ?_)
  · obtain ⟨a, ld, p, ms, rfl, _⟩ := h
    rfl
  · obtain ⟨a, ld, p, ms, rfl, hd, hp, np, few, k⟩ := h
    refine ⟨_, (pss_one (ps_ret (pe_callTy call_tuple_of rfl T.tuple (by decide +kernel) (pa_cons (pe_lc (own := [("mark", 2)]) rfl scLawSome.nd (pi_list (pv 1)) (blkOk_by (N := ["dice", "marks", "mark"]) (sc := defScope sLawSome) (by decide +kernel)) (fun _ _ _ _ _ => (pg_name (i := 2) scLawSome.nd rfl (by first | exact Or.inl rfl | exact Or.inr rfl))) (fun _ _ _ _ _ => pts_one (pt_cmpR op_eq (pe_callH HT (hr.mono (by decide)) rfl (pa_cons (pv 0) (pa_cons pe_int pa_nil))) pe_int (nomark _))) (fun _ _ _ _ _ => (pv 2))) pa_nil)))), ?_⟩
    refine ⟨_, rfl, p, rfl, ⟨_, SqL.of hp⟩, fun D hD => ?_⟩
    have nD := hd.ne hD
    have mD := hd.ne' hD
    refine lc_list (K := K) (a := p) (xs := ms.map V.int) (fun i H4 => ∃ ks : List Int, Dice H4 a ld ∧ Fr a H H4 ∧ H4 D = some (.lst (ks.map V.int)) ∧ ks.Sublist (ms.take i)) ⟨[], hd.keep (Same.new hD), Fr.new hD, upd_same, List.nil_sublist _⟩ (fun i H4 _ ⟨_, _, f4, _⟩ => SqL.of (f4 _ _ hp np)) ?_ ?_
    · rintro i y H4 hi ⟨ks, hd4, f4, e4, sub⟩
      obtain ⟨m, hm, rfl⟩ := int_of hi
      have lt := (List.getElem?_eq_some_iff.mp hm).1
      have kl := sub.length_le
      rw [List.length_take] at kl
      refine ⟨rfl, _, rfl, a, ld, _, rfl, hd4, by decide, by decide, fun d H5 d0 d1 hd5 f5 => ⟨rfl, _, rfl, ?_⟩⟩
      rw [List.take_add_one, hm]
      refine ite2 (fun _ => ?_) (fun _ => ⟨ks, hd5, f4.trans f5, f5 _ _ e4 nD, sub.trans (List.sublist_append_left _ _)⟩)
      refine ⟨_, rfl, _, f5 _ _ e4 nD, by rw [List.length_map]; exact small1000 (by omega), ks ++ [m], hd5.put nD mD, fun b o h n => by rw [upd_ne (ne_of_none h hD)]; exact f5 _ _ (f4 _ _ h n) n, by rw [upd_same, List.map_append]; rfl, List.Sublist.append sub (List.Sublist.refl _)⟩
    · rintro H4 ⟨ks, hd4, f4, e4, sub⟩
      rw [List.length_map, List.take_length] at sub
      exact ⟨D, _, rfl, .inl ⟨SqL.of e4, fun l hl => k _ ks _ ⟨l, rfl, upd_same⟩ sub (hd4.keep (Same.new hl)) (f4.trans (Fr.new hl))⟩⟩
theorem w_sl : decide (V.str "strike" = V.str "lead") = false := by decide +kernel
theorem w_ls : decide (V.str "lead" = V.str "strike") = false := by decide +kernel
theorem word_s {r : Rl} (h : r.st = true) : r.word = "strike" := by unfold Rl.word; rw [h] <;> rfl
theorem word_l {r : Rl} (h : r.st = false) : r.word = "lead" := by unfold Rl.word; rw [h] <;> rfl
theorem step_in {r : Rl} {c : List Int} (h : r.st = true) (i : inside r.x c = true) : stepR r c = lessM c r.y := by unfold stepR; rw [if_pos h, if_pos i]
theorem step_out {r : Rl} {c : List Int} (h : r.st = true) (i : ¬ inside r.x c = true) : stepR r c = c := by unfold stepR; rw [if_pos h, if_neg i]
theorem step_to {r : Rl} {c : List Int} (h : r.st = false) (i : r.x = c) : stepR r c = r.y := by unfold stepR; rw [if_neg (by rw [h]; decide), if_pos i]
theorem step_no {r : Rl} {c : List Int} (h : r.st = false) (i : ¬ r.x = c) : stepR r c = c := by unfold stepR; rw [if_neg (by rw [h]; decide), if_neg i]
end
end Xci

namespace Xci
open PySem L2

section
variable {P : Program} {w : World} {K : PySem.W.Frag} {mg : Str → Option Value} {base : Heap}
abbrev sIsInteger : Stmt := top 7
theorem scIsInteger : FnScope ["thing"] ["thing"] (defScope sIsInteger) := ⟨rfl, rfl, rfl, by decide +kernel, rfl, by decide +kernel, by decide +kernel⟩

theorem ok_integer {f : Addr} {fd : FuncData} (F : Fun K "is_integer" "is_integer" sIsInteger f fd) (T : Txt mg) : FnOk P w K mg base CX0 1 f fd ["thing"] spIsInteger := by
  refine F.ok scIsInteger (fun vs H Q E h => ?_) (fun cdv A outer s H vs Q E hr h => ?_)
  · obtain ⟨i, rfl, _⟩ := h
    rfl
  · obtain ⟨i, rfl, k⟩ := h
    refine ⟨_, (pss_one (ps_ret (pe_and (pe_callB call_isi rfl T.isinstance (by decide +kernel) (pa_cons (pv 0) (pa_cons (pe_bltn rfl T.int (by decide +kernel) (v := V.ty "int") rfl) pa_nil))) (pe_one (pe_not (pe_callB call_isi rfl T.isinstance (by decide +kernel) (pa_cons (pv 0) (pa_cons (pe_bltn rfl T.bool (by decide +kernel) (v := V.ty "bool") rfl) pa_nil)))))))), ?_⟩
    refine ⟨_, rfl, _, _, _, _, true, rfl, .ty _, .base (.int _), kit_ty (by decide +kernel), _, rfl, ?_⟩
    exact ⟨_, rfl, _, _, _, _, false, rfl, .ty _, .base (.int _), kit_ty (by decide +kernel), _, rfl, k⟩
abbrev sIsBetween : Stmt := top 8
theorem scIsBetween : FnScope ["low", "high", "thing"] ["low", "high", "thing"] (defScope sIsBetween) := ⟨rfl, rfl, rfl, by decide +kernel, rfl, by decide +kernel, by decide +kernel⟩

theorem ok_between {f : Addr} {fd : FuncData} (F : Fun K "is_between" "is_between" sIsBetween f fd) (HI : Has P w K mg base "is_integer" ["thing"] 1 spIsInteger) : FnOk P w K mg base CX0 2 f fd ["low", "high", "thing"] spBetween := by
  refine F.ok scIsBetween (fun vs H Q E h => ?_) (fun cdv A outer s H vs Q E hr h => ?_)
  · obtain ⟨lo, hi, x, rfl, _⟩ := h
    rfl
  · obtain ⟨lo, hi, x, rfl, k⟩ := h
    refine ⟨_, (pss_one (ps_ret (pe_and (pe_callH HI (hr.mono (by decide)) rfl (pa_cons (pv 2) pa_nil)) (pe_one (pe_chain op_le op_le (pv 0) (pv 2) (pv 1)))))), ?_⟩
    refine ⟨_, rfl, x, rfl, _, rfl, ?_⟩
    refine ⟨_, rfl, _, rfl, _, _, rfl, rfl, _, rfl, ?_⟩
    refine ite2 (fun h1 => ?_) (fun h1 => ?_)
    · have h1' : lo ≤ x := of_decide_eq_true h1
      refine ⟨_, rfl, _, _, rfl, rfl, ?_⟩
      have e : decide (lo ≤ x ∧ x ≤ hi) = decide (x ≤ hi) := by simp [h1']
      rw [e] at k
      exact k
    · have h1' : ¬ lo ≤ x := fun q => h1 (decide_eq_true q)
      have e : decide (lo ≤ x ∧ x ≤ hi) = false := by simp [h1']
      rw [e] at k
      exact k
abbrev sIsCell : Stmt := top 9
theorem scIsCell : FnScope ["many", "thing", "lowest", "mark"] ["many", "thing"] (defScope sIsCell) := ⟨rfl, rfl, rfl, by decide +kernel, rfl, by decide +kernel, by decide +kernel⟩

theorem ok_cell {f : Addr} {fd : FuncData} (F : Fun K "is_cell" "is_cell" sIsCell f fd) (T : Txt mg) (HB : Has P w K mg base "is_between" ["low", "high", "thing"] 2 spBetween) : FnOk P w K mg base CX0 3 f fd ["many", "thing"] spIsCell := by
  refine F.ok scIsCell (fun vs H Q E h => ?_) (fun cdv A outer s H vs Q E hr h => ?_)
  · obtain ⟨n, v, ms, rfl, _⟩ := h
    rfl
  · obtain ⟨n, v, ms, rfl, ⟨p, rfl, hp⟩, ok, k⟩ := h
    refine ⟨_, (pss_cons (ps_if (pt_not (pt_val (pe_callB call_isi rfl T.isinstance (by decide +kernel) (pa_cons (pv 1) (pa_cons (pe_bltn rfl T.tuple (by decide +kernel) (v := V.ty "tuple") rfl) pa_nil))))) (pss_one (ps_ret pe_bl)) pss_nil)
      (pss_cons (ps_set (i := 2) scIsCell.nd rfl (by first | exact Or.inl rfl | exact Or.inr rfl) pe_int)
      (pss_cons (ps_for PassesOwn.never rfl (pi_tup (pv 1)) (pg_name (i := 3) scIsCell.nd rfl (by first | exact Or.inl rfl | exact Or.inr rfl)) (pss_cons (ps_if (pt_not (pt_val (pe_callH HB (hr.mono (by decide)) rfl (pa_cons (pv 2) (pa_cons (pe_op op_sub (pv 0) pe_int) (pa_cons (pv 3) pa_nil)))))) (pss_one (ps_ret pe_bl)) pss_nil)
      (pss_one (ps_set (i := 2) scIsCell.nd rfl (by first | exact Or.inl rfl | exact Or.inr rfl) (pe_op op_add (pv 3) pe_int)))))
      (pss_one (ps_ret pe_bl))))), ?_⟩
    refine ⟨_, rfl, _, _, _, _, true, rfl, .ty _, .base (.tup hp), kit_ty (by decide +kernel), _, rfl, ?_⟩
    refine iteF ?_
    refine ⟨_, rfl, p, rfl, ⟨_, sqT hp⟩, for_tup (K := K) (a := p) (xs := ms.map V.int) (fun i σ H2 => H2 = H ∧ ∃ (z : Int) (v : Option V), σ = [some (.int n), some (.ref p), some (.int z), v] ∧ ∀ m, ms[i]? = some m → z ≤ m) ⟨rfl, 0, none, rfl, fun m hm => ok.lo m (List.mem_of_getElem? hm)⟩ (fun i σ H2 _ ⟨e, _⟩ => by rw [e]; exact sqT hp) ?_ ?_⟩
    · rintro i y σ H2 hi ⟨rfl, z, v, rfl, hz⟩
      obtain ⟨m, hm, rfl⟩ := int_of hi
      have mem := List.mem_of_getElem? hm
      have h1 := hz m hm
      have h2 := ok.hi m mem
      refine ⟨_, rfl, _, rfl, _, _, rfl, rfl, _, rfl, _, _, m, rfl, _, rfl, ?_⟩
      have e : decide (z ≤ m ∧ m ≤ n - 1) = true := decide_eq_true ⟨h1, by omega⟩
      refine ite2 (fun hf => ?_) (fun _ => ?_)
      · have hf' : (!decide (z ≤ m ∧ m ≤ n - 1)) = true := hf
        rw [e] at hf'
        cases hf'
      · refine ⟨_, rfl, _, _, rfl, rfl, ?_⟩
        refine ⟨rfl, m + 1, _, rfl, fun m' hm' => ?_⟩
        have hlt1 := (List.getElem?_eq_some_iff.mp hm)
        have hlt2 := (List.getElem?_eq_some_iff.mp hm')
        obtain ⟨l1, e1⟩ := hlt1
        obtain ⟨l2, e2⟩ := hlt2
        have := List.pairwise_iff_getElem.mp ok.up i (i + 1) l1 l2 (Nat.lt_succ_self i)
        omega
    · rintro σ H2 ⟨rfl, z, v, rfl, hz⟩
      exact k
end
end Xci

namespace Xci
open PySem L2
/-! ### strikes: where they end; which forms can stand in a row -/
section
variable {α : Type} [DecidableEq α]
/-- the marks that all cells of z have -/
def Shared0 (rows : List (List Int × α)) (z : α) (m : Int) : Prop := ∀ r ∈ rows, r.2 = z → m ∈ r.1
/-- z has a cell -/
def Named (rows : List (List Int × α)) (z : α) : Prop := ∃ r ∈ rows, r.2 = z
/-- no strike is left -/
def Still (rows : List (List Int × α)) (h : α → Int → Prop) : Prop := ∀ z, Named rows z → ∀ r ∈ rows, (∀ m, h z m → m ∈ r.1) → ∀ m, h z m → h r.2 m
/-- what strikes have left so far: within the shared marks, and no less than where they end -/
structure Under (rows : List (List Int × α)) (h : α → Int → Prop) : Prop where
  low : ∀ z, Named rows z → ∀ m, h z m → Shared0 rows z m
  top : ∀ g, Still rows g → (∀ z, Named rows z → ∀ m, g z m → Shared0 rows z m) → ∀ z, Named rows z → ∀ m, g z m → h z m
theorem Under.start {rows : List (List Int × α)} {h : α → Int → Prop} (e : ∀ z, Named rows z → ∀ m, h z m ↔ Shared0 rows z m) : Under rows h :=
  ⟨fun z n m => (e z n m).mp, fun g _ b z n m q => (e z n m).mpr (b z n m q)⟩
theorem Under.strike {rows : List (List Int × α)} {h h' : α → Int → Prop} (U : Under rows h) {z : α} (nz : Named rows z) {r : List Int × α} (hr : r ∈ rows) (w : ∀ m, h z m → m ∈ r.1)
    (e : ∀ m, h' z m ↔ h z m ∧ h r.2 m) (o : ∀ y, y ≠ z → ∀ m, h' y m ↔ h y m) : Under rows h' := by
  refine ⟨fun y n m q => ?_, fun g st b y n m q => ?_⟩
  · by_cases c : y = z
    · subst c; exact U.low y n m ((e m).mp q).1
    · exact U.low y n m ((o y c m).mp q)
  · by_cases c : y = z
    · subst c
      have g1 := U.top g st b
      exact (e m).mpr ⟨g1 y n m q, g1 r.2 ⟨r, hr, rfl⟩ m (st y n r hr (fun k hk => w k (g1 y n k hk)) m q)⟩
    · exact (o y c m).mpr (U.top g st b y n m q)
theorem Under.one {rows : List (List Int × α)} {h h' : α → Int → Prop} (U : Under rows h) (S : Still rows h) (U' : Under rows h') (S' : Still rows h') {z : α} (n : Named rows z) (m : Int) : h z m ↔ h' z m :=
  ⟨U'.top h S U.low z n m, U.top h' S' U'.low z n m⟩
/-- the marks that strikes leave tell all forms apart -/
def Apart (rows : List (List Int × α)) (h : α → Int → Prop) : Prop := ∀ y z, Named rows y → Named rows z → (∀ m, h y m ↔ h z m) → y = z
def Holds0 (rows : List (List Int × α)) : Prop := ∃ h, Under rows h ∧ Still rows h ∧ Apart rows h
theorem holds0_iff {rows : List (List Int × α)} {h : α → Int → Prop} (U : Under rows h) (S : Still rows h) : Holds0 rows ↔ Apart rows h :=
  ⟨fun ⟨g, U', S', A⟩ y z ny nz e => A y z ny nz fun m => (U'.one S' U S ny m).trans ((e m).trans (U.one S U' S' nz m)), fun A => ⟨h, U, S, A⟩⟩
/-! in a row -/
/-- y's shared marks lie within a cell of another form -/
def Reach (rows : List (List Int × α)) (y z : α) : Prop := y ≠ z ∧ ∃ r ∈ rows, r.2 = z ∧ ∀ m, Shared0 rows y m → m ∈ r.1
def stand (R : α → α → Bool) : Nat → List α → Bool
  | 0, _ => true
  | n + 1, L => if L = [] then true else if (L.filter fun z => L.any fun o => R z o).length = L.length then false else stand R n (L.filter fun z => L.any fun o => R z o)
theorem stand_nil (R : α → α → Bool) (n : Nat) : stand R n [] = true := by
  cases n
  · rfl
  · exact if_pos rfl
theorem stand_fuel (R : α → α → Bool) : ∀ (n m : Nat) (L : List α), L.length ≤ n → L.length ≤ m → stand R n L = stand R m L
  | 0, m, L, h, _ => by
    have : L = [] := List.length_eq_zero_iff.mp (by omega)
    subst this
    rw [stand_nil, stand_nil]
  | n + 1, 0, L, _, h => by
    have : L = [] := List.length_eq_zero_iff.mp (by omega)
    subst this
    rw [stand_nil, stand_nil]
  | n + 1, m + 1, L, h, h' => by
    show (if L = [] then true else if _ then false else _) = (if L = [] then true else if _ then false else _)
    by_cases e : L = []
    · rw [if_pos e, if_pos e]
    · rw [if_neg e, if_neg e]
      have le := List.length_filter_le (fun z => L.any fun o => R z o) L
      by_cases q : (L.filter fun z => L.any fun o => R z o).length = L.length
      · rw [if_pos q, if_pos q]
      · rw [if_neg q, if_neg q]
        exact stand_fuel R n m _ (by omega) (by omega)
theorem any_perm {p : α → Bool} {L L' : List α} (h : L.Perm L') : L.any p = L'.any p := by
  rw [Bool.eq_iff_iff, List.any_eq_true, List.any_eq_true]
  constructor
  · rintro ⟨x, hx, q⟩; exact ⟨x, h.mem_iff.mp hx, q⟩
  · rintro ⟨x, hx, q⟩; exact ⟨x, h.mem_iff.mpr hx, q⟩
theorem stand_perm (R : α → α → Bool) : ∀ (n : Nat) {L L' : List α}, L.Perm L' → stand R n L = stand R n L'
  | 0, _, _, _ => rfl
  | n + 1, L, L', h => by
    have ef : (fun z => L.any fun o => R z o) = fun z => L'.any fun o => R z o := funext fun z => any_perm h
    have hp : (L.filter fun z => L.any fun o => R z o).Perm (L'.filter fun z => L'.any fun o => R z o) := by rw [ef]; exact h.filter _
    show (if L = [] then true else if _ then false else _) = (if L' = [] then true else if _ then false else _)
    rw [hp.length_eq, h.length_eq, stand_perm R n hp]
    by_cases e : L = []
    · subst e
      rw [if_pos rfl, if_pos (List.nil_perm.mp h)]
    · have e' : ¬ L' = [] := fun z => e (by rw [z] at h; exact List.perm_nil.mp h)
      rw [if_neg e, if_neg e']
open Classical in
noncomputable def reachB (rows : List (List Int × α)) (y z : α) : Bool := decide (Reach rows y z)
open Classical in
/-- whether a plain book of the manner makes the rows -/
noncomputable def madeB (man : Str) (rows : List (List Int × α)) : Bool := if man = "row" then stand (reachB rows) (rows.map (·.2)).length (rows.map (·.2)).eraseDups else decide (Holds0 rows)
theorem len_dups : ∀ (n : Nat) (l : List α), l.length ≤ n → l.eraseDups.length ≤ l.length
  | _, [], _ => Nat.le_refl _
  | n + 1, x :: r, h => by
    rw [List.eraseDups_cons, List.length_cons, List.length_cons]
    have le := List.length_filter_le (fun b => !b == x) r
    have := len_dups n (r.filter fun b => !b == x) (by simp only [List.length_cons] at h; omega)
    omega
theorem nodup_dups : ∀ (n : Nat) (l : List α), l.length ≤ n → l.eraseDups.Nodup
  | _, [], _ => List.nodup_nil
  | n + 1, x :: r, h => by
    rw [List.eraseDups_cons]
    have le := List.length_filter_le (fun b => !b == x) r
    refine List.nodup_cons.mpr ⟨fun hx => ?_, nodup_dups n _ (by simp only [List.length_cons] at h; omega)⟩
    have := List.mem_eraseDups.mp hx
    have := (List.mem_filter.mp this).2
    simp at this
theorem made_row {rows : List (List Int × α)} {F : List α} (nd : F.Nodup) (mem : ∀ z, z ∈ F ↔ Named rows z) {n : Nat} (h : F.length ≤ n) : madeB "row" rows = stand (reachB rows) n F := by
  have p : (rows.map (·.2)).eraseDups.Perm F := (List.perm_ext_iff_of_nodup (nodup_dups _ _ (Nat.le_refl _)) nd).mpr fun z => by
    rw [List.mem_eraseDups, mem, List.mem_map]
    exact ⟨fun ⟨r, hr, e⟩ => ⟨r, hr, e⟩, fun ⟨r, hr, e⟩ => ⟨r, hr, e⟩⟩
  unfold madeB
  rw [if_pos rfl, stand_perm _ _ p]
  exact stand_fuel _ _ _ _ (by rw [← p.length_eq]; exact len_dups _ _ (Nat.le_refl _)) h
end
/-! ### marks as bits -/
def maskN (ms : List Int) : Nat := (ms.map fun m => 2 ^ m.toNat).sum
/-- the mark m is in the mask x -/
def hasB (x : Nat) (m : Int) : Prop := 0 ≤ m ∧ x.testBit m.toNat = true
theorem mask_lt : ∀ {n : Nat} {ms : List Int}, ms.Pairwise (· < ·) → (∀ m ∈ ms, 0 ≤ m ∧ m < n) → maskN ms < 2 ^ n := by
  intro n ms
  revert n
  refine snoc_ind (M := fun (ms : List Int) => ∀ {n : Nat}, ms.Pairwise (· < ·) → (∀ m ∈ ms, 0 ≤ m ∧ m < n) → maskN ms < 2 ^ n) (fun _ _ => Nat.two_pow_pos _) (fun l x ih n up b => ?_) ms
  have bx := b x (by simp)
  obtain ⟨u1, _, u2⟩ := List.pairwise_append.mp up
  have := ih (n := x.toNat) u1 fun m hm => ⟨(b m (by simp [hm])).1, by have := u2 m hm x (by simp); omega⟩
  have e : maskN (l ++ [x]) = maskN l + 2 ^ x.toNat := by unfold maskN; rw [List.map_append, List.sum_append]; simp
  rw [e]
  have : 2 ^ x.toNat + 2 ^ x.toNat ≤ 2 ^ n := by
    rw [show 2 ^ x.toNat + 2 ^ x.toNat = 2 ^ (x.toNat + 1) by rw [Nat.pow_succ]; omega]
    exact Nat.pow_le_pow_right (by decide) (by omega)
  omega
theorem has_mask : ∀ {ms : List Int}, ms.Pairwise (· < ·) → (∀ m ∈ ms, 0 ≤ m) → ∀ m, hasB (maskN ms) m ↔ m ∈ ms := by
  intro ms
  refine snoc_ind (M := fun (ms : List Int) => ms.Pairwise (· < ·) → (∀ m ∈ ms, 0 ≤ m) → ∀ m, hasB (maskN ms) m ↔ m ∈ ms) (fun _ _ m => by simp [hasB, maskN]) (fun l x ih up b m => ?_) ms
  have bx := b x (by simp)
  obtain ⟨u1, _, u2⟩ := List.pairwise_append.mp up
  have ih := ih u1 (fun k hk => b k (by simp [hk])) m
  have lt : maskN l < 2 ^ x.toNat := mask_lt (n := x.toNat) u1 fun k hk => ⟨b k (by simp [hk]), by have := u2 k hk x (by simp); omega⟩
  have e : maskN (l ++ [x]) = 2 ^ x.toNat * 1 + maskN l := by unfold maskN; rw [List.map_append, List.sum_append]; simp; omega
  unfold hasB at ih ⊢
  rw [e, Nat.testBit_two_pow_mul_add _ lt, List.mem_append, List.mem_singleton, ← ih]
  by_cases c : m.toNat < x.toNat
  · rw [if_pos c]
    exact ⟨fun h => .inl h, fun h => h.elim id fun q => by omega⟩
  · rw [if_neg c]
    constructor
    · rintro ⟨h0, h1⟩
      have : m.toNat - x.toNat = 0 := by
        cases q : m.toNat - x.toNat with
        | zero => rfl
        | succ k => rw [q, Nat.testBit_succ] at h1; simp at h1
      exact .inr (by omega)
    · rintro (⟨h0, h1⟩ | q)
      · have le := Nat.ge_two_pow_of_testBit h1
        have : 2 ^ x.toNat ≤ 2 ^ m.toNat := Nat.pow_le_pow_right (by decide) (by omega)
        omega
      · subst q
        rw [Nat.sub_self]
        exact ⟨bx, rfl⟩
theorem has_and {x y : Nat} {m : Int} : hasB (x &&& y) m ↔ hasB x m ∧ hasB y m := by
  unfold hasB
  rw [Nat.testBit_and, Bool.and_eq_true]
  exact ⟨fun ⟨a, b, c⟩ => ⟨⟨a, b⟩, a, c⟩, fun ⟨⟨a, b⟩, _, c⟩ => ⟨a, b, c⟩⟩
theorem has_ext {x y : Nat} (h : ∀ m, hasB x m ↔ hasB y m) : x = y := by
  refine Nat.eq_of_testBit_eq fun i => ?_
  have q := h (i : Int)
  unfold hasB at q
  rw [Int.toNat_natCast] at q
  rw [Bool.eq_iff_iff]
  exact ⟨fun z => (q.mp ⟨by omega, z⟩).2, fun z => (q.mpr ⟨by omega, z⟩).2⟩
theorem and_sub {x y : Nat} : x &&& y = x ↔ ∀ m, hasB x m → hasB y m := by
  constructor
  · intro e m h
    rw [← e] at h
    exact (has_and.mp h).2
  · intro h
    exact has_ext fun m => has_and.trans ⟨fun q => q.1, fun q => ⟨q, h m q⟩⟩
/-- left & ~right, as an int -/
theorem less_bits (x y : Nat) : Builtin.bitAnd (x : Int) (Builtin.bitNot (y : Int)) = (x : Int) - ((x &&& y : Nat) : Int) := by rw [PyProof.Rows.bitAnd_not, PySem.W.os_band]
theorem less_zero (x y : Nat) : Builtin.bitAnd (x : Int) (Builtin.bitNot (y : Int)) = 0 ↔ x &&& y = x := by
  rw [less_bits]
  have : x &&& y ≤ x := Nat.and_le_left
  omega
end Xci

namespace Xci
open PySem PySem.Spec PyProof.Rows L2
/-! len(set(a list of tuples of ints)), len(set(a list of ints)), set(a list of texts), list(d.values()) -/
/-- len(set(x)), x a list of tuples of ints -/
def tLenSetL (K : PySem.W.Frag) (ta : TE) : TE := fun σ H Q => ta σ H fun x H1 => ∃ (t : Addr) (ks : List (Addr × List Int)), x = .ref t ∧ SqL K H1 t (ks.map fun p => .ref p.1) ∧ (∀ p ∈ ks, SqT K H1 p.1 (p.2.map V.int)) ∧ ks.length < 64 ∧
  ∀ n : Nat, n ≤ ks.length → (n = ks.length ↔ (ks.map (·.2)).Nodup) → Q (.int n) H1
theorem pe_lenSetL {X : Cx} {a : Expr} {ta : TE} {p p2 q pos : Pos} (hc : X.calm = true) (hu : X.A.units + 64 < cLine) (hg : Gl X "len") (hm : X.mg "len" = none) (hg2 : Gl X "set") (hm2 : X.mg "set" = none) (ha : PE X a ta)
    (na : starEach [a] X.env = (false, eval a X.env) :: starEach [] X.env := by rfl) : PE X (.Call (.Name "len" p) [.Call (.Name "set" p2) [a] [] q] [] pos) (tLenSetL X.K ta) where
  run pins s σ H Q I h := by
    refine Call_ (ld_blt I hg hm PySem.boot_len (callWith_builtin1 (args_cons (Call_ (ld_blt I hg2 hm2 boot_set (callWith_type1 (args_cons (thn (ha.run pins s σ H _ I h) fun v s1 ⟨x, H1, I1, rv, t, ks, one, sq, each, few, k⟩ => args_nil ?_) na) na rfl))) rfl) rfl rfl))
    subst one
    cases rv
    obtain ⟨its, vals, lst, _⟩ := I1.list sq
    refine call_set_tups (P := X.prog) (w := X.w) ks (I1.ok.hd hc) lst.isList (by simpa using refs_of_vals vals) (fun p hp => I1.isT (each p hp)) few (by omega) fun h' tk L es ep tb R got kept => args_nil ?_
    have members : ∀ x, x ∈ L.map (·.2) ↔ x ∈ ks.map (·.2) := fun x => by
      constructor
      · intro z
        obtain ⟨y, hy, ey⟩ := List.mem_map.mp z
        exact ey ▸ List.mem_map_of_mem (List.mem_of_mem_take (got.sub y hy))
      · intro z
        obtain ⟨y, hy, ey⟩ := List.mem_map.mp z
        exact ey ▸ got.all y (by rw [List.take_length]; exact hy)
    obtain ⟨o, at0, exact_, dat⟩ := R.ob
    have n1 := count_unlike R.nd members
    rw [List.length_map, List.length_map] at n1
    have n2 : es.size = L.length := R.size (s := ⟨h', s1.gens, s1.drawn, tk, s1.os⟩)
    have J : Inv X pins σ H1 { s1 with heap := h', toks := tk } := I1.kept kept
    exact call_len_set at0 exact_ dat (R.fits (s := ⟨h', s1.gens, s1.drawn, tk, s1.os⟩)) (by rw [n2]; omega) ⟨.int L.length, H1, J.tok _, ⟨_, by rw [n2]⟩, k _ n1.1 n1.2⟩
/-- the ints met first: each once -/
theorem met_facts (val : Nat → Int) : ∀ i, (firstMet val i).Nodup ∧ ∀ z, z ∈ firstMet val i ↔ z ∈ (List.range i).map val
  | 0 => ⟨List.nodup_nil, fun z => Iff.rfl⟩
  | i + 1 => by
    obtain ⟨nd, mem⟩ := met_facts val i
    have e : (List.range (i + 1)).map val = (List.range i).map val ++ [val i] := by rw [List.range_succ, List.map_append]; rfl
    rw [firstMet_succ, e]
    show (if (firstMet val i).any (· == val i) then firstMet val i else firstMet val i ++ [val i]).Nodup ∧ ∀ z, z ∈ (if (firstMet val i).any (· == val i) then firstMet val i else firstMet val i ++ [val i]) ↔ _
    by_cases h : val i ∈ firstMet val i
    · have has : ((firstMet val i).any fun x => x == val i) = true := List.any_eq_true.mpr ⟨_, h, beq_self_eq_true _⟩
      rw [if_pos has]
      refine ⟨nd, fun z => ?_⟩
      rw [List.mem_append, mem z, List.mem_singleton]
      exact ⟨.inl, fun q => q.elim id fun q => by rw [q]; exact (mem _).mp h⟩
    · rw [if_neg fun q => by
        obtain ⟨x, hx, ex⟩ := List.any_eq_true.mp q
        rw [eq_of_beq ex] at hx
        exact h hx]
      refine ⟨List.nodup_append.mpr ⟨nd, List.pairwise_singleton .., fun a ha b hb ab => ?_⟩, fun z => ?_⟩
      · rw [List.mem_singleton.mp hb] at ab
        exact h (ab ▸ ha)
      · rw [List.mem_append, List.mem_append, mem z]
theorem range_at (ns : List Int) : (List.range ns.length).map (fun i => ns.getD i 0) = ns := by
  refine List.ext_getElem? fun i => ?_
  rw [List.getElem?_map]
  by_cases h : i < ns.length
  · rw [List.getElem?_range h, List.getElem?_eq_getElem h]
    show some (ns.getD i 0) = _
    rw [List.getD_eq_getElem?_getD, List.getElem?_eq_getElem h]; rfl
  · rw [List.getElem?_eq_none (by rw [List.length_range]; omega), List.getElem?_eq_none (by omega)]; rfl
/-- len(set(x)), x a list of ints -/
def tLenSetN (K : PySem.W.Frag) (ta : TE) : TE := fun σ H Q => ta σ H fun x H1 => ∃ (l : Addr) (ns : List Int), x = .ref l ∧ SqL K H1 l (ns.map V.int) ∧ ns.length ≤ 4000 ∧ ∀ n : Nat, n ≤ ns.length → (n = ns.length ↔ ns.Nodup) → Q (.int n) H1
theorem pe_lenSetN {X : Cx} {a : Expr} {ta : TE} {p p2 q pos : Pos} (hc : X.calm = true) (hg : Gl X "len") (hm : X.mg "len" = none) (hg2 : Gl X "set") (hm2 : X.mg "set" = none) (ha : PE X a ta)
    (na : starEach [a] X.env = (false, eval a X.env) :: starEach [] X.env := by rfl) : PE X (.Call (.Name "len" p) [.Call (.Name "set" p2) [a] [] q] [] pos) (tLenSetN X.K ta) where
  run pins s σ H Q I h := by
    refine Call_ (ld_blt I hg hm PySem.boot_len (callWith_builtin1 (args_cons (Call_ (ld_blt I hg2 hm2 boot_set (callWith_type1 (args_cons (thn (ha.run pins s σ H _ I h) fun v s1 ⟨x, H1, I1, rv, l, ns, one, sq, few, k⟩ => args_nil ?_) na) na rfl))) rfl) rfl rfl))
    subst one
    cases rv
    obtain ⟨its, vals, lst, _⟩ := I1.list sq
    have size : its.toArray.size = ns.length := by rw [List.size_toArray, ← vals.length, List.length_map]
    refine call_set_list (I1.ok.hd hc) lst.isList (by simpa using vals.ints) (by rw [size]; unfold scanBound; omega) fun h' tk R kept => args_nil ?_
    have fs := met_facts (fun i => ns.getD i 0) ns.length
    rw [size] at R
    rw [range_at] at fs
    obtain ⟨o, es, ep, t, at0, exact_, dat, _, _, _, fits, count⟩ := R
    have n1 := count_unlike fs.1 fs.2
    have J : Inv X pins σ H1 { s1 with heap := h', toks := tk } := I1.kept fun b o e => kept b o (Heap.lt_size e) e
    exact call_len_set at0 exact_ dat fits (by rw [count]; omega) ⟨.int (firstMet (fun i => ns.getD i 0) ns.length).length, H1, J.tok _, ⟨_, by rw [count]⟩, k _ n1.1 n1.2⟩
/-- list(d.values()) -/
def tListVals (td : TE) : TE := fun σ H Q => td σ H fun x H1 => ∃ d kvs, x = .ref d ∧ H1 d = some (.dK kvs) ∧ ∀ q, H1 q = none → Q (.ref q) (upd H1 q (.lst (kvs.map (·.2))))
theorem kv_snd {kvs : List (Key × V)} {vs : List (Key × Value)} (r : KV kvs vs) {j : Nat} {x : V} {k : Key} {v : Value} (h1 : (kvs.map (·.2))[j]? = some x) (h2 : vs[j]? = some (k, v)) : RelV x v := by
  rw [List.getElem?_map] at h1
  obtain ⟨⟨k', x'⟩, e, rfl⟩ := Option.map_eq_some_iff.mp h1
  obtain ⟨u, hu, ru⟩ := kv_get r e
  rw [h2] at hu
  cases hu
  exact ru
theorem pe_listVals {X : Cx} {e : Expr} {te : TE} {p pos apos cpos : Pos} (hc : X.calm = true) (hg : Gl X "list") (hm : X.mg "list" = none) (he : PE X e te) (hbase : attributeBase e "values" X.env (eval e X.env) = eval e X.env := by rfl) (hline : (apos.endLine == cpos.line) = true := by rfl)
    (hs : starEach [.Call (.Attribute e "values" apos) [] [] cpos] X.env = (false, eval (.Call (.Attribute e "values" apos) [] [] cpos) X.env) :: starEach [] X.env := by rfl) :
    PE X (.Call (.Name "list" p) [.Call (.Attribute e "values" apos) [] [] cpos] [] pos) (tListVals te) where
  run pins s σ H Q I h := by
    have view : wpAny (model X.prog X.w) X.A (eval (.Call (.Attribute e "values" apos) [] [] cpos) X.env) (fun u s1 => ∃ d kvs H1 s0, u = .ref s0.heap.objs.size ∧ s1 = { s0 with heap := s0.heap.push { cls := .type "dict_values", data := .fields #[.ref d] } } ∧ Inv X pins σ H1 s0 ∧ H1 d = some (.dK kvs) ∧ ∀ q, H1 q = none → Q (.ref q) (upd H1 q (.lst (kvs.map (·.2))))) X.xe s := by
      refine wpAny_Call_method (T := "dict") (id := "dict.values") hbase rfl hline F.plainAttrs_dict F.slot_dict_values F.type_dict_values (thn (he.run pins s σ H _ I h) fun u s1 ⟨x, H1, I1, rx, d, kvs, ex, hd, q⟩ => ?_)
      subst ex
      obtain rfl : u = Value.ref d := rx
      obtain ⟨_, low, vs, _, isd⟩ := (show ObjOk X.prog X.w H1 s1.heap d (.dK kvs) from I1.hok d _ hd)
      refine ⟨isd.typeIs, isd.mapOf.noDict, ?_⟩
      exact method_meetsIn F.slot_dict_values F.entry_dict_values rfl (PySem.evalArgs_none ⟨rfl, isd.typeIs, F.args_dict_values_1 _, _, meets_dict_values (mixKind X.prog X.w) d low, ⟨vs, isd⟩, ⟨d, kvs, H1, s1, rfl, rfl, I1, hd, q⟩⟩)
    refine Call_ (ld_blt I hg hm (show bootBuiltins "list" = some (.type "list") by decide +kernel) (callWith_type1 (args_cons (thn view fun u s1 ⟨d, kvs, H1, s0, eu, es, I0, hd, q⟩ => args_nil ?_) hs) hs rfl))
    subst eu
    subst es
    obtain ⟨small, low, vs, kv, isd⟩ := (show ObjOk X.prog X.w H1 s0.heap d (.dK kvs) from I0.hok d _ hd)
    obtain ⟨ep, at0⟩ := isd.dictAt
    have I1 : Inv X pins σ H1 { s0 with heap := s0.heap.push { cls := .type "dict_values", data := .fields #[.ref d] } } := I0.kept (t' := s0.toks) fun b o => Heap.get?_push_of_some _
    have len : kvs.length = vs.length := Paired.length kv
    refine PySem.W.kdl_call (PySem.W.kdl_values (knd := mixKind X.prog X.w) (kvs := vs) (ep := ep)) (I1.ok.hd hc) ⟨⟨_, Heap.get?_push_size _ rfl, rfl, rfl⟩, at0.push _⟩ (by rw [← len]; exact small) fun h' tk acc c kept made got => ?_
    have size : acc.toList.length = acc.size := Array.length_toList
    refine ⟨.ref _, upd H1 _ (.lst (kvs.map (·.2))), I1.laid kept (Nat.le_refl _) (show ObjOk X.prog X.w _ _ _ (.lst (kvs.map (·.2))) from ⟨by rw [List.length_map]; exact small, acc.toList, c, vals_of_at (by rw [List.length_map, size, got.1, len]) fun j x v h1 h2 => ?_, by rw [Array.toArray_toList]; exact made⟩), rfl, q _ (I1.hok.fresh (Nat.le_refl _))⟩
    obtain ⟨k, hk⟩ := got.2 j v (by rw [← Array.getElem?_toList]; exact h2)
    exact kv_snd kv h1 hk
end Xci

namespace Xci
open PySem L2
/-! ### tables that a plain book makes: the program's dicts of bits -/
/-- the told cells with their forms -/
def rowsOf (cells : List (List Int)) (fs : List (Option Str)) : List (List Int × Str) := (cells.zip fs).filterMap fun p => p.2.map fun z => (p.1, z)
theorem rows_mem {cells : List (List Int)} {fs : List (Option Str)} {r : List Int × Str} : r ∈ rowsOf cells fs ↔ ∃ i : Nat, cells[i]? = some r.1 ∧ fs[i]? = some (some r.2) := by
  unfold rowsOf
  rw [List.mem_filterMap]
  constructor
  · rintro ⟨⟨c, f⟩, hp, e⟩
    obtain ⟨i, hi⟩ := List.mem_iff_getElem?.mp hp
    rw [List.getElem?_zip_eq_some] at hi
    cases f with
    | none => cases e
    | some z =>
      cases e
      exact ⟨i, hi⟩
  · rintro ⟨i, h1, h2⟩
    exact ⟨(r.1, some r.2), List.mem_iff_getElem?.mpr ⟨i, by rw [List.getElem?_zip_eq_some]; exact ⟨h1, h2⟩⟩, rfl⟩
theorem rows_take {cells : List (List Int)} {fs : List (Option Str)} {i : Nat} {c : List Int} {f : Option Str} (h1 : cells[i]? = some c) (h2 : fs[i]? = some f) :
    rowsOf (cells.take (i + 1)) (fs.take (i + 1)) = rowsOf (cells.take i) (fs.take i) ++ (match f with | some z => [(c, z)] | none => []) := by
  unfold rowsOf
  have e : (cells.take (i + 1)).zip (fs.take (i + 1)) = (cells.take i).zip (fs.take i) ++ [(c, f)] := by
    have l1 := (List.getElem?_eq_some_iff.mp h1).1
    have l2 := (List.getElem?_eq_some_iff.mp h2).1
    rw [List.take_add_one, List.take_add_one, h1, h2, List.zip_append (by rw [List.length_take, List.length_take]; omega)]
    rfl
  rw [e, List.filterMap_append]
  cases f <;> rfl
theorem rows_none (n : Nat) (cells : List (List Int)) (fs : List (Option Str)) (h1 : cells.length ≤ n) (h2 : fs.length ≤ n) : rowsOf (cells.take n) (fs.take n) = rowsOf cells fs := by
  rw [List.take_of_length_le h1, List.take_of_length_le h2]
/-- a dict from these texts -/
def dkOf (F : List Str) (g : Str → V) : List (Key × V) := F.map fun z => (Sum.inr z, g z)
theorem dk_len (F : List Str) (g : Str → V) : (dkOf F g).length = F.length := List.length_map _
theorem dk_val {F : List Str} {g : Str → V} : ∀ {z : Str}, z ∈ F → valV (dkOf F g) (Sum.inr z) = some (g z) := by
  induction F with
  | nil => intro z h; cases h
  | cons y r ih =>
    intro z h
    unfold dkOf
    rw [List.map_cons]
    by_cases e : y = z
    · subst e
      exact valV_pos rfl
    · rw [valV_neg (fun q => e (Sum.inr.inj q))]
      rcases List.mem_cons.mp h with q | q
      · exact absurd q.symm e
      · exact ih q
theorem dk_none {F : List Str} {g : Str → V} : ∀ {z : Str}, z ∉ F → valV (dkOf F g) (Sum.inr z) = none := by
  induction F with
  | nil => intro z _; rfl
  | cons y r ih =>
    intro z h
    unfold dkOf
    rw [List.map_cons, valV_neg (fun q => h (by rw [← Sum.inr.inj q]; exact List.mem_cons_self))]
    exact ih fun q => h (List.mem_cons_of_mem _ q)
def setG (g : Str → V) (z : Str) (v : V) (y : Str) : V := if y = z then v else g y
theorem dk_put {F : List Str} {g : Str → V} {z : Str} {v : V} (h : z ∈ F) : putK (dkOf F g) (Sum.inr z) v = dkOf F (setG g z v) := by
  have any : ((dkOf F g).any fun kv => decide (kv.1 = Sum.inr z)) = true := List.any_eq_true.mpr ⟨(Sum.inr z, g z), List.mem_map.mpr ⟨z, h, rfl⟩, decide_eq_true rfl⟩
  unfold putK
  rw [if_pos any]
  unfold dkOf
  rw [List.map_map]
  refine List.map_congr_left fun y _ => ?_
  show (if (Sum.inr y : Key) = Sum.inr z then (Sum.inr y, v) else (Sum.inr y, g y)) = (Sum.inr y, setG g z v y)
  unfold setG
  by_cases e : y = z
  · rw [if_pos (by rw [e]), if_pos e]
  · rw [if_neg (fun q => e (Sum.inr.inj q)), if_neg e]
theorem dk_new {F : List Str} {g : Str → V} {z : Str} {v : V} (h : z ∉ F) : putK (dkOf F g) (Sum.inr z) v = dkOf (F ++ [z]) (setG g z v) := by
  rw [putK_new v (dk_none h)]
  unfold dkOf
  rw [List.map_append]
  have e1 : F.map (fun y => ((Sum.inr y : Key), g y)) = F.map fun y => (Sum.inr y, setG g z v y) := List.map_congr_left fun y hy => by
    unfold setG
    rw [if_neg fun e => h (by rw [← e]; exact hy)]
  have e2 : [((Sum.inr z : Key), v)] = [z].map fun y => (Sum.inr y, setG g z v y) := by
    unfold setG
    rw [List.map_cons, if_pos rfl]; rfl
  rw [e1, e2]
/-- z among F, put behind where it isn't -/
def withZ (F : List Str) (z : Str) : List Str := if z ∈ F then F else F ++ [z]
theorem dk_with {F : List Str} {g : Str → V} {z : Str} {v : V} : putK (dkOf F g) (Sum.inr z) v = dkOf (withZ F z) (setG g z v) := by
  unfold withZ
  by_cases h : z ∈ F
  · rw [if_pos h, dk_put h]
  · rw [if_neg h, dk_new h]
theorem dk_get {H : Hp} {d : Addr} {F : List Str} {g : Str → V} {z : Str} (e : H d = some (.dK (dkOf F g))) (h : z ∈ F) : DGet H d (.str z) (some (g z)) := by
  have := DGet.k (k := Sum.inr z) e
  rwa [dk_val h] at this
theorem dk_congr {F : List Str} {g g' : Str → V} (h : ∀ z ∈ F, g z = g' z) : dkOf F g = dkOf F g' := List.map_congr_left fun z hz => by rw [h z hz]
theorem dk_snd (F : List Str) (g : Str → V) : (dkOf F g).map (·.2) = F.map g := by unfold dkOf; rw [List.map_map]; rfl
theorem dk_fst (F : List Str) (g : Str → V) : ((dkOf F g).map fun kv => kV kv.1) = F.map V.str := by unfold dkOf; rw [List.map_map]; rfl
theorem with_nodup {F : List Str} {z : Str} (h : F.Nodup) : (withZ F z).Nodup := by
  unfold withZ
  split
  · exact h
  · rename_i q
    exact List.nodup_append.mpr ⟨h, List.pairwise_singleton .., fun a ha b hb e => by rw [List.mem_singleton.mp hb] at e; exact q (e ▸ ha)⟩
theorem with_mem {F : List Str} {z y : Str} : y ∈ withZ F z ↔ y ∈ F ∨ y = z := by
  unfold withZ
  split
  · rename_i q
    exact ⟨.inl, fun h => h.elim id fun e => e ▸ q⟩
  · rw [List.mem_append, List.mem_singleton]
theorem with_len (F : List Str) (z : Str) : (withZ F z).length ≤ F.length + 1 := by
  unfold withZ
  split
  · omega
  · rw [List.length_append]; exact Nat.le_refl _
/-- the masks of cells, as values -/
def bitsV (cells : List (List Int)) : List V := (cells.map fun c => ((maskN c : Nat) : Int)).map V.int
theorem bits_at {cells : List (List Int)} {i : Nat} {x : V} (h : (bitsV cells)[i]? = some x) : ∃ c, cells[i]? = some c ∧ x = .int (maskN c : Nat) := by
  unfold bitsV at h
  rw [List.map_map, List.getElem?_map] at h
  obtain ⟨c, e, rfl⟩ := Option.map_eq_some_iff.mp h
  exact ⟨c, e, rfl⟩
theorem bitsV_len (cells : List (List Int)) : (bitsV cells).length = cells.length := by unfold bitsV; rw [List.length_map, List.length_map]
abbrev maskV (x : Str → Nat) (z : Str) : V := .int (x z : Nat)
/-- the names that stand in the rows -/
structure Names (rows : List (List Int × Str)) (F : List Str) : Prop where
  nd : F.Nodup
  mem : ∀ z, z ∈ F ↔ Named rows z
theorem Names.len {cells : List (List Int)} {fs : List (Option Str)} {F : List Str} (N : Names (rowsOf cells fs) F) : F.length ≤ cells.length := by
  have h : F.length ≤ ((rowsOf cells fs).map (·.2)).length := List.Nodup.length_le_of_subset N.nd fun z hz => by
    obtain ⟨r, hr, e⟩ := (N.mem z).mp hz
    exact List.mem_map.mpr ⟨r, hr, e⟩
  rw [List.length_map] at h
  have h2 : (rowsOf cells fs).length ≤ (cells.zip fs).length := List.length_filterMap_le _ _
  rw [List.length_zip] at h2
  omega
/-- masks that hold just the shared marks -/
def AreShared (rows : List (List Int × Str)) (F : List Str) (x : Str → Nat) : Prop := ∀ z ∈ F, ∀ m, hasB (x z) m ↔ Shared0 rows z m
def spBits : Sp := fun vs H Q _ => ∃ (v : V) (ms : List Int), vs = [v] ∧ Xci.Mk H v ms ∧ MarksOk 6 ms ∧ ∀ H', Same H H' → Q (.int (maskN ms : Nat)) H'
def spCellBits (CF : Addr) : Sp := fun vs H Q _ => ∃ (fam : Addr) (many : Int) (pc : Addr) (cy : List V) (cells : List (List Int)), vs = [.ref fam] ∧ FamAt CF H fam many pc ∧ H pc = some (.tup cy) ∧ Mks H cy cells ∧ (∀ c ∈ cells, MarksOk 6 c) ∧ cells.length ≤ 64 ∧
  ∀ (q : Addr) (H' : Hp), H' q = some (.lst (bitsV cells)) → Same H H' → Q (.ref q) H'
/-- forms at p: a tuple, or a list -/
def FsAt (w : Bool) (H : Hp) (p : Addr) (fs : List (Option Str)) : Prop := H p = some (if w = true then .lst (fs.map formV) else .tup (fs.map formV))
theorem FsAt.same {w : Bool} {H H' : Hp} {p : Addr} {fs : List (Option Str)} (h : FsAt w H p fs) (s : Same H H') : FsAt w H' p fs := s _ _ h
/-- masks of cells at q, forms at p -/
structure MskAt (w : Bool) (H : Hp) (q p : Addr) (cells : List (List Int)) (fs : List (Option Str)) : Prop where
  q : H q = some (.lst (bitsV cells))
  p : FsAt w H p fs
  len : cells.length = fs.length
  ok : ∀ c ∈ cells, MarksOk 6 c
  few : cells.length ≤ 63
theorem MskAt.same {w : Bool} {H H' : Hp} {q p : Addr} {cells : List (List Int)} {fs : List (Option Str)} (h : MskAt w H q p cells fs) (s : Same H H') : MskAt w H' q p cells fs := ⟨s _ _ h.q, h.p.same s, h.len, h.ok, h.few⟩
def spCommonBits (w : Bool) : Sp := fun vs H Q _ => ∃ (q p : Addr) (cells : List (List Int)) (fs : List (Option Str)), vs = [.ref q, .ref p] ∧ MskAt w H q p cells fs ∧
  ∀ (d : Addr) (F : List Str) (x : Str → Nat) (H' : Hp), H' d = some (.dK (dkOf F (maskV x))) → H d = none → Names (rowsOf cells fs) F → AreShared (rowsOf cells fs) F x → Same H H' → Q (.ref d) H'
def spStruck : Sp := fun vs H Q _ => ∃ (d : Addr) (F : List Str) (x : Str → Nat) (z o : Str) (c : List Int), vs = [.ref d, .str z, .str o, .int (maskN c : Nat)] ∧ H d = some (.dK (dkOf F (maskV x))) ∧ z ∈ F ∧ o ∈ F ∧ Q (.bl (decide (x z &&& maskN c = x z) && decide (x z &&& x o ≠ x z))) H
/-- where strikes end -/
structure Ended (rows : List (List Int × Str)) (F : List Str) (x : Str → Nat) : Prop where
  un : Under rows fun z => hasB (x z)
  st : Still rows fun z => hasB (x z)
def spShrink (w : Bool) : Sp := fun vs H Q _ => ∃ (q p : Addr) (cells : List (List Int)) (fs : List (Option Str)), vs = [.ref q, .ref p] ∧ MskAt w H q p cells fs ∧
  ∀ (t d l : Addr) (F : List Str) (x : Str → Nat) (H' : Hp), H' t = some (.tup [.ref d, .ref l]) → H' d = some (.dK (dkOf F (maskV x))) → Names (rowsOf cells fs) F → Ended (rowsOf cells fs) F x → Same H H' → Q (.ref t) H'
/-- pairs of a mask and a form, as told ones are listed -/
abbrev Told (H : Hp) (ys : List V) (rows : List (List Int × Str)) : Prop := Paired (fun v (r : List Int × Str) => Tup H v [.int (maskN r.1 : Nat), .str r.2]) ys rows
theorem Told.keep {H H' : Hp} {ys : List V} {rows : List (List Int × Str)} (f : TFr H H') (t : Told H ys rows) : Told H' ys rows := Paired.mapP t fun _ _ h => Tup.keep f h
def spReachesOne : Sp := fun vs H Q _ => ∃ (z : Str) (n : Nat) (l : Addr) (ys : List V) (rows : List (List Int × Str)), vs = [.str z, .int (n : Nat), .ref l] ∧ H l = some (.lst ys) ∧ Told H ys rows ∧ ys.length ≤ 1000 ∧
  ∀ H', Same H H' → Q (.bl (rows.any fun r => decide (n &&& maskN r.1 = n) && decide (r.2 ≠ z))) H'
def spStand (w : Bool) : Sp := fun vs H Q _ => ∃ (q p : Addr) (cells : List (List Int)) (fs : List (Option Str)), vs = [.ref q, .ref p] ∧ MskAt w H q p cells fs ∧ ∀ H', Same H H' → Q (.bl (madeB "row" (rowsOf cells fs))) H'
def Man2 (man : Str) : Prop := man = "row" ∨ man = "within"
def spMadeSo (w : Bool) : Sp := fun vs H Q _ => ∃ (q p : Addr) (cells : List (List Int)) (fs : List (Option Str)) (man : Str), vs = [.ref q, .ref p, .str man] ∧ MskAt w H q p cells fs ∧ Man2 man ∧ ∀ H', Same H H' → Q (.bl (madeB man (rowsOf cells fs))) H'
def spNeedManner : Sp := fun vs H Q _ => ∃ man : Str, vs = [.str man] ∧ Man2 man ∧ ∀ H', Same H H' → Q .non H'
def spIsMade (CF C : Addr) : Sp := fun vs H Q _ => ∃ (t fam pf : Addr) (fs : List (Option Str)) (many : Int) (pc : Addr) (cy : List V) (cells : List (List Int)) (man : Str), vs = [.ref t, .str man] ∧ TabAt C H t fam pf ∧ H pf = some (.tup (fs.map formV)) ∧ FamAt CF H fam many pc ∧ H pc = some (.tup cy) ∧ Mks H cy cells ∧
  (∀ c ∈ cells, MarksOk 6 c) ∧ cells.length ≤ 24 ∧ cells.length = fs.length ∧ Man2 man ∧ ∀ H', Same H H' → Q (.bl (madeB man (rowsOf cells fs))) H'
end Xci

set_option maxHeartbeats 2000000
namespace Xci
open PySem PySem.Spec PyProof.Rows L2
section
variable {X : Cx} {pins : List (Addr × Obj)} {σ : L2.St} {H : Hp} {s : Shared} {a b : Addr} {r : Value} {d : V} {k : List Key} {A : Around} {E : Value → Shared → Prop}
/-- what a dict with tuples for keys tells at a key, which is laid there if it is new -/
theorem setdT {kvs : List (List Key × V)} {Q : Value → Shared → Prop} (hu : A.units + 1 < cLine) (I : Inv X pins σ H s) (e : H a = some (.dT kvs)) (eb : H b = some (.tup (k.map kV))) (rd : RelV d r) (hl : kvs.length < sizeLine)
    (there : ∀ v, valV kvs k = some v → ∀ (u : Value) (s' : Shared), Inv X pins σ H s' → RelV v u → Q u s') (new : valV kvs k = none → ∀ s' : Shared, Inv X pins σ (upd H a (.dT (putK kvs k d))) s' → Q r s') :
    wpAny (model X.prog X.w) A (call (.builtin "dict.setdefault") [.ref a, .ref b, r]) Q E s := by
  obtain ⟨z, hd, xs, rel, dd⟩ := dt_of I.hok e
  have room : xs.length ≤ sizeLine := Paired.length rel ▸ z
  have same := rel.val k
  refine call_setdefault_heap (hsz := room) (tupleKind_room_in1 hu) (key_of I.hok eb) hd dd (fun p hp => ?_) (fun no h' dd' hs => ?_)
  · rw [hp] at same
    cases q : valV kvs k with
    | none => rw [q] at same; exact same.elim
    | some v => rw [q] at same; exact there v q _ _ (I.tok _) same
  · rw [no] at same
    cases q : valV kvs k with
    | some v => rw [q] at same; exact same.elim
    | none =>
      obtain ⟨o', es, ep, ho, h2, h3, h4, _, h5⟩ := dd'
      have le : (putK kvs k d).length ≤ sizeLine := Nat.le_trans (length_putK kvs k d) hl
      refine new q _ (d_write I (by rw [e]; exact True.intro) hs ⟨o', ho⟩ ⟨le, hd, _, (rel.put k eb rd).keeps fun c ys ec => ?_, o', es, ep, ho, h2, h3, h4, h5⟩)
      rw [upd_ne (ne_of ec e nofun)]
      exact ec
/-- d.setdefault(y, z), y a tuple -/
def tSetdT (td ty tx : TE) : TE := fun σ H Q => td σ H fun x H1 => ∃ a, x = .ref a ∧ IsD H1 a ∧ ty σ H1 fun y H2 => tx σ H2 fun z H3 => ∃ (kvs : List (List Key × V)) (k : List Key) (b : Addr), H3 a = some (.dT kvs) ∧ y = .ref b ∧ H3 b = some (.tup (k.map kV)) ∧ kvs.length < sizeLine ∧
  (∀ v, valV kvs k = some v → Q v H3) ∧ (valV kvs k = none → Q z (upd H3 a (.dT (putK kvs k z))))
theorem pe_setdT {o e f : Expr} {td ty tx : TE} {apos cpos : Pos} (hu : X.A.units + 1 < cLine) (ho : PE X o td) (he : PE X e ty) (hf : PE X f tx) (m : M2 X o "setdefault" apos e f cpos) : PE X (.Call (.Attribute o "setdefault" apos) [e, f] [] cpos) (tSetdT td ty tx) where
  run pins s σ H Q I h := by
    refine wpAny_Call_method m.base m.few m.line PySem.F.plainAttrs_dict PySem.F.slot_dict_setdefault PySem.F.type_dict_setdefault (thn (ho.run pins s σ H _ I h) fun u s1 ⟨x, H1, I1, rx, a, ex, is, more⟩ => ?_)
    subst ex
    obtain rfl : u = Value.ref a := rx
    obtain ⟨t1, t2, _⟩ := isD_at I1 is
    refine ⟨t1, t2, ?_⟩
    rw [m.trees]
    refine Calls.callWith_builtin rfl (Calls.evalArgs_plain (Calls.spliced_cons (thn (he.run pins s1 σ H1 _ I1 more) fun u2 s2 ⟨y, H2, I2, ry, more2⟩ =>
      Calls.spliced_cons (thn (hf.run pins s2 σ H2 _ I2 more2) fun u3 s3 ⟨z, H3, I3, rz, kvs, k, b, ea, ey, eb, hl, there, new⟩ => Calls.spliced_nil ?_))))
    subst ey
    obtain rfl : u2 = Value.ref b := ry
    exact setdT hu I3 ea eb rz hl (fun v hv u s4 I4 ru => ⟨v, _, I4, ru, there v hv⟩) fun no s4 I4 => ⟨z, _, I4, rz, new no⟩
end
/-- the values of a dict with tuples for keys, one by one, while it is locked -/
def ItvT (d : Addr) (o : Obj) (kvs : List (List Key × V)) : It :=
  ⟨fun i H => H d = some (.frz o (.dT kvs)) ∧ i < kvs.length, fun i H x H' => H' = H ∧ ∃ k, kvs[i]? = some (k, x), fun i H => H d = some (.frz o (.dT kvs)) ∧ kvs.length ≤ i⟩
theorem walk_valsT {d : Addr} {o : Obj} {kvs : List (List Key × V)} : Walk (ItvT d o kvs) kvs.length (fun H => H d = some (.frz o (.dT kvs))) (fun i H x H' => H' = H ∧ ∃ k, kvs[i]? = some (k, x)) :=
  ⟨fun _ _ hi q => ⟨q, hi⟩, fun _ q => ⟨q, Nat.le_refl _⟩, fun _ _ _ _ _ _ y => y⟩
/-- the entries behind such a dict -/
theorem lockedT {X : Cx} {pins : List (Addr × Obj)} {σ : L2.St} {H : Hp} {s : Shared} {d : Addr} {o : Obj} {kvs : List (List Key × V)} (I : Inv X pins σ H s) (h : H d = some (.frz o (.dT kvs))) :
    (d == sysModules) = false ∧ s.heap.get? d = some o ∧ o.ExactDict ∧ ∃ (es : Array DictEntry) (ep : Nat), o.data = .dict es ep ∧ es.size = kvs.length ∧ ∀ (i : Nat) (k : List Key) (v : V), kvs[i]? = some (k, v) → ∃ en : DictEntry, es[i]? = some en ∧ RelV v en.val := by
  obtain ⟨hd, z, hs, xs, pr, o', es, ep, ho, hx, hdt, he, _⟩ := I.hok d _ h
  rw [hd] at ho
  cases ho
  have same : kvs.length = xs.length := Paired.length pr
  refine ⟨hs, hd, hx, es, ep, hdt, by rw [same]; exact size_of_entries he, fun i k v at_ => ?_⟩
  obtain ⟨x, hxs, _, _, rv⟩ := paired_get pr at_
  have q := entry_at he i
  rw [hxs] at q
  exact ⟨_, q, rv⟩
theorem turn_valsT {P : Program} {w : World} {K : PySem.W.Frag} {tg : Expr} {d it : Addr} {o : Obj} {kvs : List (List Key × V)} {es : Array DictEntry} {ep : Nat} (hod : o.data = .dict es ep) :
    Turn P w K tg (ItvT d o kvs) [it] it (fun i h => h.get? it = some (DVw.valOb d i es.size ep)) where
  mem := List.mem_singleton.mpr rfl
  obj i h st b hb := by
    cases List.mem_singleton.mp hb
    exact ⟨_, st, nofun⟩
  keep i h h' st k := k it (List.mem_singleton.mpr rfl) _ st
  self A i s Q E st h := wpAny_pyIter_valiter (i := i) (n := es.size) (ep := ep) (d := d) ⟨_, st, rfl, rfl⟩ h
  item := by
    intro X hP hw hK hc i pins s σ H E I hf st hg
    subst hP hw hK
    obtain ⟨hd, hi⟩ := hg
    obtain ⟨f0, f1, f2, f3, f4, f5⟩ := hf it (List.mem_singleton.mpr rfl)
    obtain ⟨hs, hgd, hx, es', ep', hdt, hsz, ent⟩ := lockedT I hd
    obtain ⟨rfl, rfl⟩ := dict_ep hod hdt
    obtain ⟨⟨k, v⟩, hkv⟩ : ∃ p, kvs[i]? = some p := ⟨kvs[i], List.getElem?_eq_getElem hi⟩
    obtain ⟨en, hen, rv⟩ := ent i k v hkv
    refine DVw.val_item st hgd hod rfl hen fun h' st' sb => ?_
    have I1 : Inv X pins σ H { s with heap := h' } := I.turned (t' := s.toks) (fun b ob hb e => (sb.2 b hb).trans e) f0 f1 f3 f4 f5
    exact ⟨en.val, rfl, go_of (s := { s with heap := h' }) st' rfl rfl (by decide) ⟨v, H, I1, rv, ⟨rfl, k, hkv⟩, st', fun b hb => (hf b hb).1⟩⟩
  done := by
    intro X hP hw hK hc i pins s σ H E I hf st hg
    subst hP hw hK
    obtain ⟨hd, hi⟩ := hg
    obtain ⟨f0, f1, f2, f3, f4, f5⟩ := hf it (List.mem_singleton.mpr rfl)
    obtain ⟨hs, hgd, hx, es', ep', hdt, hsz, ent⟩ := lockedT I hd
    obtain ⟨rfl, rfl⟩ := dict_ep hod hdt
    exact DVw.val_end (I.ok.hd hc) st hgd hod rfl (Array.getElem?_eq_none (by omega)) fun h' eb => ⟨rfl, I.turned (t' := s.toks) (fun b ob hb e => eb b ob hb e) f0 f1 f3 f4 f5⟩
/-- d.values() of a dict of the kind dict, whatever stands in it -/
theorem values_view {P : Program} {w : World} {A : Around} {E : Value → Shared → Prop} {s : Shared} {d : Addr} {o : Obj} {Q : Value → Shared → Prop} (hs : (d == sysModules) = false) (hd : s.heap.get? d = some o) (hx : o.ExactDict)
    (q : Q (.ref s.heap.objs.size) { s with heap := s.heap.push (DSub.viewOb "dict_values" d) }) : wpAny (model P w) A (call (.builtin "dict.values") [.ref d]) Q E s := by
  have T : s.TypeIs (.ref d) "dict" := ⟨o, hd, hx.1⟩
  have M : MeetsIn P w (Builtin.«dict.values» ⟨[.ref d], []⟩) (fun _ R s => s.TypeIs (.ref d) "dict" ∧ R (.ok (.ret (.ref s.heap.objs.size))) { s with heap := s.heap.push (DSub.viewOb "dict_values" d) }) := .of_wp fun A R s ⟨ty, h⟩ => by
    refine wpAny_bind (m := Builtin.Dict.noArgs "values" ⟨[.ref d], []⟩) ?_
    unfold Builtin.Dict.noArgs
    refine wpAny_bind (wpAny_notOrdered_dict ty (wpAny_pure (a := d) ?_))
    have all : Builtin.Dict.showsAll d = pure () := by
      unfold Builtin.Dict.showsAll
      rw [hs]
      rfl
    refine wpAny_bind (m := Builtin.Dict.showsAll d) ?_
    rw [all]
    exact wpAny_pure (wpAny_bind (wpAny_newObj_type (wpAny_pure ⟨_, rfl, h⟩)))
  exact call_meetsIn PySem.F.slot_dict_values T PySem.F.entry_dict_values (PySem.F.args_dict_values_1 _) M ⟨T, q⟩
def iValsT (td : TE) : TI := fun σ H R => td σ H fun x H1 => ∃ d o kvs, x = .ref d ∧ H1 d = some (.frz o (.dT kvs)) ∧ R (ItvT d o kvs) H1
theorem pi_valuesT {X : Cx} {tg e : Expr} {td : TE} {apos cpos : Pos} (he : PE X e td) (hbase : attributeBase e "values" X.env (eval e X.env) = eval e X.env := by rfl) (hline : (apos.endLine == cpos.line) = true := by rfl) : PI X tg (.Call (.Attribute e "values" apos) [] [] cpos) (iValsT td) := by
    refine ⟨fun pins s σ H R I h => ?_⟩
    refine wpAny_Call_method (T := "dict") (id := "dict.values") hbase rfl hline F.plainAttrs_dict F.slot_dict_values F.type_dict_values (thn (he.run pins s σ H _ I h) fun u s1 ⟨x, H1, I1, rx, d, o, kvs, ex, hd, q⟩ => ?_)
    subst ex
    obtain rfl : u = Value.ref d := rx
    obtain ⟨hs, hgd, hx, es, ep, hdt, hsz, ent⟩ := lockedT I1 hd
    refine ⟨⟨o, hgd, hx.1⟩, fun b z => ?_, ?_⟩
    · cases z
      exact ⟨o, hgd, hx.2.1⟩
    have I2 : Inv X pins σ H1 { s1 with heap := s1.heap.push (DSub.viewOb "dict_values" d) } := I1.kept (t' := s1.toks) fun b ob q => Heap.get?_push_of_some _ q
    refine Calls.callWith_builtin rfl (PySem.evalArgs_none ?_)
    refine values_view hs hgd hx ?_
    refine DSub.iter_vals (a := d) (Heap.get?_push_size _ rfl) (Heap.get?_push_of_some _ hgd) hdt ?_
    exact pi_one (tk := s1.toks) I2 _ (turn_valsT hdt) (Heap.get?_push_size _ rfl) q
end Xci

namespace Xci
open PySem L2
/-! ### numbers heaped by what stands at them -/
def posN (gs : List (List Int)) (g : List Int) (n : Nat) : List Nat := (List.range n).filter fun i => decide (gs[i]? = some g)
def keysOf (gs : List (List Int)) : List (List Int) := gs.foldl (fun ks g => if g ∈ ks then ks else ks ++ [g]) []
theorem keys_snoc (gs : List (List Int)) (g : List Int) : keysOf (gs ++ [g]) = if g ∈ keysOf gs then keysOf gs else keysOf gs ++ [g] := by
  unfold keysOf
  rw [List.foldl_append]
  rfl
theorem mem_keys (gs : List (List Int)) : ∀ g, g ∈ keysOf gs ↔ g ∈ gs := by
  refine snoc_ind (M := fun gs => ∀ g, g ∈ keysOf gs ↔ g ∈ gs) (fun g => by simp [keysOf]) (fun l x ih g => ?_) gs
  rw [keys_snoc, List.mem_append, List.mem_singleton]
  by_cases h : x ∈ keysOf l
  · rw [if_pos h, ih g]
    exact ⟨.inl, fun q => q.elim id fun e => e ▸ (ih x).mp h⟩
  · rw [if_neg h, List.mem_append, List.mem_singleton, ih g]
theorem nodup_keys (gs : List (List Int)) : (keysOf gs).Nodup := by
  refine snoc_ind (M := fun gs => (keysOf gs).Nodup) List.nodup_nil (fun l x ih => ?_) gs
  rw [keys_snoc]
  by_cases h : x ∈ keysOf l
  · rw [if_pos h]; exact ih
  · rw [if_neg h]
    refine List.nodup_append.mpr ⟨ih, List.pairwise_singleton _ x, fun a ha b hb e => h ?_⟩
    rw [← List.mem_singleton.mp hb, ← e]
    exact ha
theorem keys_len (gs : List (List Int)) : (keysOf gs).length ≤ gs.length := List.Nodup.length_le_of_subset (nodup_keys gs) fun x hx => (mem_keys gs x).mp hx
theorem keys_take {gs : List (List Int)} {i : Nat} {g : List Int} (h : gs[i]? = some g) : keysOf (gs.take (i + 1)) = if g ∈ keysOf (gs.take i) then keysOf (gs.take i) else keysOf (gs.take i) ++ [g] := by
  rw [List.take_add_one, h]
  exact keys_snoc _ _
theorem pos_mem {gs : List (List Int)} {g : List Int} {n j : Nat} : j ∈ posN gs g n ↔ j < n ∧ gs[j]? = some g := by
  unfold posN
  rw [List.mem_filter, List.mem_range, decide_eq_true_eq]
theorem pos_same {gs : List (List Int)} {i : Nat} {g : List Int} (h : gs[i]? = some g) : posN gs g (i + 1) = posN gs g i ++ [i] := by
  unfold posN
  rw [List.range_succ, List.filter_append, List.filter_cons, List.filter_nil, if_pos (decide_eq_true h)]
theorem pos_other {gs : List (List Int)} {i : Nat} {g g' : List Int} (h : gs[i]? = some g) (n : g' ≠ g) : posN gs g' (i + 1) = posN gs g' i := by
  unfold posN
  rw [List.range_succ, List.filter_append, List.filter_cons, List.filter_nil, if_neg, List.append_nil]
  intro e
  have := of_decide_eq_true e
  rw [h] at this
  exact n (Option.some.inj this).symm
theorem pos_new {gs : List (List Int)} {i : Nat} {g : List Int} (h : g ∉ keysOf (gs.take i)) : posN gs g i = [] := by
  refine List.eq_nil_iff_forall_not_mem.mpr fun j hj => h ?_
  obtain ⟨lt, e⟩ := pos_mem.mp hj
  refine (mem_keys _ _).mpr (List.mem_of_getElem? (i := j) ?_)
  rw [List.getElem?_take, if_pos lt]
  exact e
theorem pos_len (gs : List (List Int)) (g : List Int) (n : Nat) : (posN gs g n).length ≤ n := by
  have := List.length_filter_le (fun i => decide (gs[i]? = some g)) (List.range n)
  rw [List.length_range] at this
  exact this
/-- the heaps, ascending -/
structure Grp (gs : List (List Int)) (ds : List (List Int)) : Prop where
  up : ds.Pairwise leC
  pm : ds.Perm ((keysOf gs).map fun g => nat2 (posN gs g gs.length))
theorem Grp.one {gs ds es : List (List Int)} (h : Grp gs ds) (k : Grp gs es) : ds = es := sortedU h.up k.up (h.pm.trans k.pm.symm)
theorem Grp.at_ {gs ds : List (List Int)} (h : Grp gs ds) {d : List Int} (m : d ∈ ds) : ∃ g ∈ gs, d = nat2 (posN gs g gs.length) := by
  obtain ⟨g, hg, e⟩ := List.mem_map.mp (h.pm.subset m)
  exact ⟨g, (mem_keys gs g).mp hg, e.symm⟩
theorem mem_nums {js : List Nat} {x : Int} : x ∈ nat2 js ↔ ∃ j ∈ js, x = (j : Int) := by
  unfold nat2
  rw [List.mem_map]
  exact ⟨fun ⟨j, a, b⟩ => ⟨j, a, b.symm⟩, fun ⟨j, a, b⟩ => ⟨j, a, b.symm⟩⟩
theorem Grp.len {gs ds : List (List Int)} (h : Grp gs ds) : ds.length ≤ gs.length := by
  rw [h.pm.length_eq, List.length_map]
  exact keys_len gs
theorem Grp.row {gs ds : List (List Int)} (h : Grp gs ds) {d : List Int} (m : d ∈ ds) : d.length ≤ gs.length := by
  obtain ⟨g, _, rfl⟩ := h.at_ m
  rw [nat2_len]
  exact pos_len _ _ _
/-- a heap lies in just one of the later ones -/
theorem Grp.later {gs gs' ds es : List (List Int)} (h : Grp gs ds) (k : Grp gs' es) (len : gs'.length = gs.length) (st : ∀ i j : Nat, gs[i]? = gs[j]? → gs'[i]? = gs'[j]?) {d : List Int} (m : d ∈ ds) :
    ∃ (x : Int) (r : List Int) (o : List Int), d = x :: r ∧ es.filter (fun o => decide (x ∈ o)) = [o] ∧ ∀ y ∈ d, y ∈ o := by
  obtain ⟨g, hg, rfl⟩ := h.at_ m
  obtain ⟨j, hj⟩ := List.mem_iff_getElem?.mp hg
  have jl := (List.getElem?_eq_some_iff.mp hj).1
  have jm : j ∈ posN gs g gs.length := pos_mem.mpr ⟨jl, hj⟩
  obtain ⟨j0, js, ej⟩ : ∃ j0 js, posN gs g gs.length = j0 :: js := by
    cases e : posN gs g gs.length with
    | nil => rw [e] at jm; cases jm
    | cons a b => exact ⟨a, b, rfl⟩
  obtain ⟨l0, h0⟩ := pos_mem.mp (show j0 ∈ posN gs g gs.length by rw [ej]; exact List.mem_cons_self)
  have l0' : j0 < gs'.length := by omega
  have g0 : gs'[j0]? = some gs'[j0] := List.getElem?_eq_getElem l0'
  have kin : gs'[j0] ∈ keysOf gs' := (mem_keys _ _).mpr (List.getElem_mem l0')
  have in_iff : ∀ g', ((j0 : Int) ∈ nat2 (posN gs' g' gs'.length)) ↔ g' = gs'[j0] := fun g' => by
    rw [mem_nums]
    constructor
    · rintro ⟨q, hq, e⟩
      have : q = j0 := by omega
      subst this
      have := (pos_mem.mp hq).2
      rw [g0] at this
      exact (Option.some.inj this).symm
    · rintro rfl
      exact ⟨j0, pos_mem.mpr ⟨l0', g0⟩, rfl⟩
  have pf : (es.filter fun o => decide ((j0 : Int) ∈ o)).Perm (((keysOf gs').filter fun g' => decide (g' = gs'[j0])).map fun g' => nat2 (posN gs' g' gs'.length)) := by
    refine (k.pm.filter _).trans ?_
    rw [List.filter_map]
    refine List.Perm.of_eq (congrArg _ (List.filter_congr fun g' _ => ?_))
    exact decide_eq_decide.mpr (in_iff g')
  have one : ((keysOf gs').filter fun g' => decide (g' = gs'[j0])) = [gs'[j0]] := by
    have nd : ((keysOf gs').filter fun g' => decide (g' = gs'[j0])).Nodup := List.Sublist.nodup List.filter_sublist (nodup_keys gs')
    have all : ∀ x ∈ ((keysOf gs').filter fun g' => decide (g' = gs'[j0])), x = gs'[j0] := fun x hx => of_decide_eq_true (List.mem_filter.mp hx).2
    have me : gs'[j0] ∈ ((keysOf gs').filter fun g' => decide (g' = gs'[j0])) := List.mem_filter.mpr ⟨kin, decide_eq_true rfl⟩
    match hh : (keysOf gs').filter fun g' => decide (g' = gs'[j0]) with
    | [] => rw [hh] at me; cases me
    | [a] => rw [hh] at me; rw [List.mem_singleton.mp me]
    | a :: b :: r =>
      rw [hh] at nd all
      have e1 := all a List.mem_cons_self
      have e2 := all b (List.mem_cons_of_mem _ List.mem_cons_self)
      exact absurd (List.mem_cons.mpr (.inl (e1.trans e2.symm))) (List.nodup_cons.mp nd).1
  rw [one] at pf
  have ef := List.perm_singleton.mp pf
  refine ⟨(j0 : Int), nat2 js, _, by rw [ej]; rfl, ef, fun y hy => ?_⟩
  obtain ⟨q, hq, rfl⟩ := mem_nums.mp hy
  obtain ⟨lq, eq⟩ := pos_mem.mp hq
  refine mem_nums.mpr ⟨q, pos_mem.mpr ⟨by omega, ?_⟩, rfl⟩
  rw [← g0]
  exact st q j0 (eq.trans h0.symm)
/-- unlike things: each number alone -/
theorem Grp.alone {gs : List (List Int)} (nd : gs.Nodup) : Grp gs ((List.range gs.length).map fun i => [((i : Nat) : Int)]) := by
  have all : ∀ n, n ≤ gs.length → keysOf (gs.take n) = gs.take n := fun n => by
    induction n with
    | zero => intro _; rfl
    | succ n ih =>
      intro le
      have e : gs[n]? = some gs[n] := List.getElem?_eq_getElem (by omega)
      rw [keys_take e, ih (by omega), if_neg, List.take_add_one, e]
      · rfl
      · intro m
        obtain ⟨i, hi⟩ := List.mem_iff_getElem?.mp m
        rw [List.getElem?_take] at hi
        split at hi
        · rename_i lt
          have := nd_ix nd hi e
          omega
        · cases hi
  have ek : keysOf gs = gs := by
    have := all gs.length (Nat.le_refl _)
    rw [List.take_length] at this
    exact this
  refine ⟨?_, ?_⟩
  · rw [List.pairwise_map]
    refine List.pairwise_lt_range.imp fun {a b} lt => ?_
    show HT.lexLt [((b : Nat) : Int)] [((a : Nat) : Int)] = false
    rw [HT.lexLt_cons, if_neg (by omega)]
    exact decide_eq_false (by omega)
  · rw [ek]
    refine List.Perm.of_eq (List.ext_getElem? fun i => ?_)
    rw [List.getElem?_map, List.getElem?_map]
    by_cases lt : i < gs.length
    · rw [List.getElem?_range lt, List.getElem?_eq_getElem lt]
      show some [((i : Nat) : Int)] = some (nat2 (posN gs gs[i] gs.length))
      have : posN gs gs[i] gs.length = [i] := by
        have nd' : (posN gs gs[i] gs.length).Nodup := List.Sublist.nodup List.filter_sublist List.nodup_range
        have me : i ∈ posN gs gs[i] gs.length := pos_mem.mpr ⟨lt, List.getElem?_eq_getElem lt⟩
        have al : ∀ j ∈ posN gs gs[i] gs.length, j = i := fun j hj => by
          obtain ⟨l, e⟩ := pos_mem.mp hj
          exact nd_ix nd e (List.getElem?_eq_getElem lt)
        match hh : posN gs gs[i] gs.length with
        | [] => rw [hh] at me; cases me
        | [a] => rw [hh] at me; rw [List.mem_singleton.mp me]
        | a :: b :: r =>
          rw [hh] at nd' al
          exact absurd (List.mem_cons.mpr (.inl ((al a List.mem_cons_self).trans (al b (List.mem_cons_of_mem _ List.mem_cons_self)).symm))) (List.nodup_cons.mp nd').1
      rw [this]
      rfl
    · rw [List.getElem?_eq_none (by rw [List.length_range]; omega), List.getElem?_eq_none (by omega)]
      rfl
/-! ### the dict of heaps -/
def keyI (g : List Int) : List Key := g.map Sum.inl
theorem keyI_kV (g : List Int) : (keyI g).map kV = g.map V.int := by
  unfold keyI
  rw [List.map_map]
  rfl
theorem keyI_inj {g h : List Int} (e : keyI g = keyI h) : g = h := by
  induction g generalizing h with
  | nil =>
    cases h with
    | nil => rfl
    | cons a r => cases e
  | cons x g ih =>
    cases h with
    | nil => cases e
    | cons a r =>
      have e' : Sum.inl x :: keyI g = Sum.inl a :: keyI r := e
      injection e' with e1 e2
      injection e1 with e1
      rw [e1, ih e2]
/-- each key with the list that holds its numbers, all of them new since H0 -/
abbrev Heaps (H0 H : Hp) (gs : List (List Int)) (i : Nat) (kvs : List (List Key × V)) (ks : List (List Int)) : Prop :=
  Paired (fun kv g => kv.1 = keyI g ∧ ∃ l, kv.2 = V.ref l ∧ H0 l = none ∧ H l = some (.lst ((nat2 (posN gs g i)).map V.int))) kvs ks
theorem heaps_there {H0 H : Hp} {gs : List (List Int)} {i : Nat} {g : List Int} : ∀ {kvs : List (List Key × V)} {ks : List (List Int)}, Heaps H0 H gs i kvs ks → g ∈ ks → ks.Nodup → ∃ (j : Nat) (l : Addr), ks[j]? = some g ∧ kvs[j]? = some (keyI g, .ref l) ∧ valV kvs (keyI g) = some (.ref l) ∧ H0 l = none ∧ H l = some (.lst ((nat2 (posN gs g i)).map V.int))
  | _, _, .nil, h, _ => by cases h
  | (k, v) :: _, g' :: _, .cons ⟨e, l, ev, h0, hl⟩ t, h, nd => by
    by_cases q : g' = g
    · subst q
      have e : k = keyI g' := e
      have ev : v = .ref l := ev
      subst e ev
      exact ⟨0, l, rfl, rfl, valV_pos rfl, h0, hl⟩
    · have hm : g ∈ _ := (List.mem_cons.mp h).resolve_left fun z => q z.symm
      obtain ⟨j, l, a, b, c, d⟩ := heaps_there t hm (List.nodup_cons.mp nd).2
      have e : k = keyI g' := e
      exact ⟨j + 1, l, a, b, by rw [valV_neg (fun z => q (keyI_inj (e.symm.trans z)))]; exact c, d⟩
theorem heaps_new {H0 H : Hp} {gs : List (List Int)} {i : Nat} {g : List Int} : ∀ {kvs : List (List Key × V)} {ks : List (List Int)}, Heaps H0 H gs i kvs ks → g ∉ ks → valV kvs (keyI g) = none
  | _, _, .nil, _ => rfl
  | (k, v) :: _, g' :: _, .cons ⟨e, _⟩ t, h => by
    have e : k = keyI g' := e
    rw [valV_neg (fun z => h (List.mem_cons.mpr (.inl (keyI_inj (e.symm.trans z)).symm)))]
    exact heaps_new t fun q => h (List.mem_cons_of_mem _ q)
theorem hu1 {A : Around} {k : Nat} (hr : Room k A) : A.units + 1 < cLine := by have := hu64 hr; omega
theorem either_of {f : Bool → Sp} {w : Bool} {vs : List V} {H : Hp} {Q : VK} {E : XK} (h : f w vs H Q E) : spEither f vs H Q E := by
  cases w
  · exact .inr h
  · exact .inl h
theorem Paired.mapIx {α β : Type} {F G : α → β → Prop} : ∀ {xs : List α} {ys : List β}, Paired F xs ys → (∀ (i : Nat) (x : α) (y : β), xs[i]? = some x → ys[i]? = some y → F x y → G x y) → Paired G xs ys
  | _, _, .nil, _ => .nil
  | _, _, .cons h t, g => .cons (g 0 _ _ rfl rfl h) (Paired.mapIx t fun i x y a b => g (i + 1) x y a b)
/-- the lists of the heaps stand as they stood -/
theorem heaps_keep {H0 H H' : Hp} {gs : List (List Int)} {i : Nat} {kvs : List (List Key × V)} {ks : List (List Int)} (h : Heaps H0 H gs i kvs ks) (keep : ∀ l xs, H l = some (.lst xs) → H' l = some (.lst xs)) : Heaps H0 H' gs i kvs ks :=
  Paired.mapIx h fun _ _ _ _ _ ⟨e, l, ev, h0, hl⟩ => ⟨e, l, ev, h0, keep l _ hl⟩
/-- the next number, at a thing that has a heap -/
theorem heaps_old {H0 H : Hp} {gs : List (List Int)} {i : Nat} {g : List Int} {kvs : List (List Key × V)} {ks : List (List Int)} (h : Heaps H0 H gs i kvs ks) (nd : (kvs.map Prod.snd).Nodup) (hg : gs[i]? = some g) {j : Nat} {l : Addr} (hk : ks[j]? = some g) (hv : kvs[j]? = some (keyI g, V.ref l)) (ndk : ks.Nodup) :
    Heaps H0 (upd H l (.lst ((nat2 (posN gs g i)).map V.int ++ [.int (i : Int)]))) gs (i + 1) kvs ks :=
  Paired.mapIx h fun n kv g' a b ⟨e, m, ev, h0, hl⟩ => by
    by_cases q : n = j
    · subst q
      rw [hk] at b
      obtain rfl := Option.some.inj b
      rw [hv] at a
      obtain rfl := Option.some.inj a
      have : l = m := by
        have ev : V.ref l = V.ref m := ev
        injection ev
      subst this
      refine ⟨e, l, rfl, h0, ?_⟩
      rw [upd_same, pos_same hg, nat2_app, List.map_append]
      rfl
    · have ne : m ≠ l := fun z => q (by
        subst z
        refine nd_ix nd (x := V.ref m) ?_ ?_
        · rw [List.getElem?_map, a]
          exact congrArg some ev
        · rw [List.getElem?_map, hv]
          rfl)
      have ng : g' ≠ g := fun z => q (by
        subst z
        exact nd_ix ndk b hk)
      refine ⟨e, m, ev, h0, ?_⟩
      rw [upd_ne ne, pos_other hg ng]
      exact hl
/-- .. at a new thing: its list at e holds the number -/
theorem heaps_add {H0 H H' : Hp} {gs : List (List Int)} {i : Nat} {g : List Int} {kvs : List (List Key × V)} {ks : List (List Int)} {e : Addr} (h : Heaps H0 H gs i kvs ks) (hg : gs[i]? = some g) (new : g ∉ ks) (emp : posN gs g i = []) (h0 : H0 e = none)
    (keep : ∀ l xs, H l = some (.lst xs) → H' l = some (.lst xs)) (at_ : H' e = some (.lst [.int (i : Int)])) : Heaps H0 H' gs (i + 1) (kvs ++ [(keyI g, .ref e)]) (ks ++ [g]) := by
  refine Paired.app (Paired.mapIx h fun n kv g' a b ⟨ek, m, ev, h1, hl⟩ => ⟨ek, m, ev, h1, ?_⟩) (.cons ⟨rfl, e, rfl, h0, ?_⟩ .nil)
  · rw [pos_other hg fun z => new (by rw [← z]; exact List.mem_of_getElem? b)]
    exact keep m _ hl
  · rw [at_, pos_same hg, emp]
    rfl
theorem heaps_ne {H0 H : Hp} {gs : List (List Int)} {i : Nat} {kvs : List (List Key × V)} {ks : List (List Int)} {e : Addr} (h : Heaps H0 H gs i kvs ks) (free : H e = none) : V.ref e ∉ kvs.map Prod.snd := fun m => by
  obtain ⟨kv, hkv, ev⟩ := List.mem_map.mp m
  obtain ⟨n, hn⟩ := List.getElem?_of_mem hkv
  obtain ⟨g, _, _, l, el, _, hl⟩ := Paired.get h hn
  rw [ev] at el
  injection el with el
  subst el
  rw [free] at hl
  cases hl
theorem nodup_snoc {xs : List V} {x : V} (h : xs.Nodup) (n : x ∉ xs) : (xs ++ [x]).Nodup := List.nodup_append.mpr ⟨h, List.pairwise_singleton _ x, fun a ha b hb e => n (by rw [← List.mem_singleton.mp hb, ← e]; exact ha)⟩
def spAlike (CF : Addr) (w : Bool) : Sp := fun vs H Q _ => ∃ (fam rp : Addr) (many : Int) (pc : Addr) (cy : List V) (cells : List (List Int)) (ys : List V) (rs : List Rl), vs = [.ref fam, .ref rp] ∧ FamAt CF H fam many pc ∧ H pc = some (.tup cy) ∧ Mks H cy cells ∧ FamOk many cells ∧ RlsAt w H rp ys rs ∧
  ∀ (q : Addr) (zs : List V) (ds : List (List Int)) (H' : Hp), Grp (cells.map (behindR rs)) ds → H' q = some (.lst zs) → Mks H' zs ds → Same H H' → H q = none → Q (.ref q) H'
def spLawHeaps : Sp := fun vs H Q _ => ∃ (pc rp : Addr) (cy : List V) (cells : List (List Int)) (ys : List V) (rs : List Rl), vs = [.ref pc, .ref rp] ∧ H pc = some (.tup cy) ∧ Mks H cy cells ∧ cells.length ≤ 24 ∧ (∀ c ∈ cells, MarksOk 6 c) ∧ H rp = some (.lst ys) ∧ Rls H ys rs ∧ (∀ r ∈ rs, RlOk r) ∧
  ∀ (q : Addr) (zs : List V) (ds : List (List Int)) (H' : Hp), Grp (cells.map (behindR rs)) ds → H' q = some (.lst zs) → Mks H' zs ds → Same H H' → H q = none → Q (.ref q) H'
theorem tfr_not {H : Hp} {d : Addr} {u o : HO} (h : H d = some u) (n : ∀ xs, u ≠ .tup xs) : TFr H (upd H d o) := fun q xs e => by
  rw [upd_ne fun z => ?_]
  · exact e
  · subst z
    rw [h] at e
    exact n xs (Option.some.inj e)
/-- where the loop stands: the dict at d, nothing of H0 touched -/
structure Lots (H0 : Hp) (d : Addr) (gs : List (List Int)) (i : Nat) (kvs : List (List Key × V)) (H : Hp) : Prop where
  s : Same H0 H
  d : H d = some (.dT kvs)
  hp : Heaps H0 H gs i kvs (keysOf (gs.take i))
  nd : (kvs.map Prod.snd).Nodup
/-- .. and the list of the thing that comes next is l -/
structure LotsAt (H0 : Hp) (d : Addr) (gs : List (List Int)) (i : Nat) (g : List Int) (l : Addr) (kvs : List (List Key × V)) (j : Nat) (H : Hp) : Prop where
  s : Same H0 H
  d : H d = some (.dT kvs)
  hp : Heaps H0 H gs i kvs (keysOf (gs.take (i + 1)))
  nd : (kvs.map Prod.snd).Nodup
  k : (keysOf (gs.take (i + 1)))[j]? = some g
  v : kvs[j]? = some (keyI g, V.ref l)
theorem Lots.len {H0 H : Hp} {d : Addr} {gs : List (List Int)} {i : Nat} {kvs : List (List Key × V)} (h : Lots H0 d gs i kvs H) : kvs.length ≤ i := by
  have a := Paired.length h.hp
  have b := keys_len (gs.take i)
  have c := List.length_take_le i gs
  omega
theorem Lots.same {H0 H H' : Hp} {d : Addr} {gs : List (List Int)} {i : Nat} {kvs : List (List Key × V)} (h : Lots H0 d gs i kvs H) (f : Same H H') : Lots H0 d gs i kvs H' := ⟨h.s.trans f, f _ _ h.d, heaps_keep h.hp fun l xs e => f _ _ e, h.nd⟩
theorem setd_heaps {H0 H : Hp} {d b e : Addr} {gs : List (List Int)} {i : Nat} {g : List Int} {kvs : List (List Key × V)} {Q : VK} (h : Lots H0 d gs i kvs H) (n0 : H0 d = none) (hg : gs[i]? = some g) (i24 : i < 24) (hb : H b = some (.tup (g.map V.int))) (he : H e = none)
    (G : ∀ (kvs' : List (List Key × V)) (j : Nat) (l : Addr) (H' : Hp), LotsAt H0 d gs i g l kvs' j H' → (∀ a o, H a = some o → a ≠ d → H' a = some o) → Q (.ref l) H') :
    ∃ (kvs0 : List (List Key × V)) (k : List Key) (b' : Addr), (upd H e (.lst [])) d = some (.dT kvs0) ∧ V.ref b = .ref b' ∧ (upd H e (.lst [])) b' = some (.tup (k.map kV)) ∧ kvs0.length < sizeLine ∧
      (∀ v, valV kvs0 k = some v → Q v (upd H e (.lst []))) ∧ (valV kvs0 k = none → Q (.ref e) (upd (upd H e (.lst [])) d (.dT (putK kvs0 k (.ref e))))) := by
  have ll := h.len
  have se : Same H (upd H e (.lst [])) := Same.new he
  have h1 := h.same se
  refine ⟨kvs, keyI g, b, se _ _ h.d, rfl, by rw [keyI_kV]; exact se _ _ hb, small1000 (by omega), fun v hv => ?_, fun no => ?_⟩
  · by_cases m : g ∈ keysOf (gs.take i)
    · obtain ⟨j, l, a, c, x, _, _⟩ := heaps_there h1.hp m (nodup_keys _)
      rw [x] at hv
      obtain rfl := Option.some.inj hv
      have ek : keysOf (gs.take (i + 1)) = keysOf (gs.take i) := by rw [keys_take hg, if_pos m]
      exact G kvs j l _ ⟨h1.s, h1.d, by rw [ek]; exact h1.hp, h1.nd, by rw [ek]; exact a, c⟩ fun a o e _ => se _ _ e
    · rw [heaps_new h1.hp m] at hv
      cases hv
  · have m : g ∉ keysOf (gs.take i) := fun m => by
      obtain ⟨_, l, _, _, x, _⟩ := heaps_there h1.hp m (nodup_keys _)
      rw [no] at x
      cases x
    have ek : keysOf (gs.take (i + 1)) = keysOf (gs.take i) ++ [g] := by rw [keys_take hg, if_neg m]
    have dn : e ≠ d := fun z => by
      rw [z, h.d] at he
      cases he
    have kl : kvs.length = (keysOf (gs.take i)).length := Paired.length h.hp
    have e0 : H0 e = none := h.s.free he
    rw [putK_new _ no]
    have keep : ∀ l xs, (upd H e (.lst [])) l = some (.lst xs) → (upd (upd H e (.lst [])) d (.dT (kvs ++ [(keyI g, .ref e)]))) l = some (.lst xs) := fun l xs el => by
      rw [upd_ne (ne_of el h1.d nofun)]
      exact el
    refine G _ kvs.length e _ ⟨fun a o ea => ?_, upd_same, ?_, ?_, ?_, ?_⟩ fun a o ea na => ?_
    · rw [upd_ne (ne_of_none ea n0)]
      exact h1.s _ _ ea
    · rw [ek]
      refine Paired.app (heaps_keep h1.hp keep) (.cons ⟨rfl, e, rfl, e0, ?_⟩ .nil)
      rw [pos_new m]
      exact keep _ _ upd_same
    · rw [List.map_append]
      exact nodup_snoc h.nd (heaps_ne h.hp he)
    · rw [ek, kl, List.getElem?_append_right (Nat.le_refl _), Nat.sub_self]
      rfl
    · rw [List.getElem?_append_right (Nat.le_refl _), Nat.sub_self]
      rfl
    · rw [upd_ne na]
      exact se _ _ ea
theorem LotsAt.list {H0 H : Hp} {d l : Addr} {gs : List (List Int)} {i j : Nat} {g : List Int} {kvs : List (List Key × V)} (h : LotsAt H0 d gs i g l kvs j H) : H l = some (.lst ((nat2 (posN gs g i)).map V.int)) ∧ H0 l = none := by
  obtain ⟨g', hk, _, l', e, n, a⟩ := Paired.get h.hp h.v
  rw [h.k] at hk
  obtain rfl := Option.some.inj hk
  have e : V.ref l = V.ref l' := e
  injection e with e
  subst e
  exact ⟨a, n⟩
theorem LotsAt.push {H0 H : Hp} {d l : Addr} {gs : List (List Int)} {i j : Nat} {g : List Int} {kvs : List (List Key × V)} (h : LotsAt H0 d gs i g l kvs j H) (hg : gs[i]? = some g) : Lots H0 d gs (i + 1) kvs (upd H l (.lst ((nat2 (posN gs g i)).map V.int ++ [.int (i : Int)]))) := by
  obtain ⟨a, n⟩ := h.list
  refine ⟨fun b o e => ?_, ?_, heaps_old h.hp h.nd hg h.k h.v (nodup_keys _), h.nd⟩
  · rw [upd_ne (ne_of_none e n)]
    exact h.s _ _ e
  · rw [upd_ne (ne_of h.d a nofun)]
    exact h.d
theorem Lots.start {H0 : Hp} {d : Addr} {gs : List (List Int)} (n0 : H0 d = none) : Lots H0 d gs 0 [] (upd H0 d (.dT [])) := ⟨Same.new n0, upd_same, .nil, List.nodup_nil⟩
end Xci

namespace Xci
open PySem PySem.Spec PyProof.Rows L2
/-! ### tables that books make, in any of the four manners -/
theorem ok_imp {P : Program} {w : World} {K : PySem.W.Frag} {mg : Str → Option Value} {base : Heap} {f : Addr} {fd : FuncData} {ps : List Str} {k : Nat} {sp sp' : Sp} (g : FnOk P w K mg base CX0 k f fd ps sp) (h : ∀ vs H Q E, sp' vs H Q E → sp vs H Q E) : FnOk P w K mg base CX0 k f fd ps sp' :=
  ⟨fun vs H Q E q => g.len vs H Q E (h _ _ _ _ q), fun A outer s H args us vs Q E hr he hb hv q => g.run A outer s H args us vs Q E hr he hb hv (h _ _ _ _ q)⟩
theorem ok_both {P : Program} {w : World} {K : PySem.W.Frag} {mg : Str → Option Value} {base : Heap} {f : Addr} {fd : FuncData} {ps : List Str} {k : Nat} {sp sp' : Sp} (g : FnOk P w K mg base CX0 k f fd ps sp) (g' : FnOk P w K mg base CX0 k f fd ps sp') : FnOk P w K mg base CX0 k f fd ps (fun vs H Q E => sp vs H Q E ∨ sp' vs H Q E) :=
  ⟨fun vs H Q E h => h.elim (g.len vs H Q E) (g'.len vs H Q E), fun A outer s H args us vs Q E hr he hb hv hs => hs.elim (fun h => g.run A outer s H args us vs Q E hr he hb hv h) (fun h => g'.run A outer s H args us vs Q E hr he hb hv h)⟩
theorem n_row3 {man : Str} (h : Man man) : man = "row" ∨ (man ≠ "row" ∧ Man3 man) := by
  rcases h with rfl | rfl | rfl | rfl
  · exact .inl rfl
  · exact .inr ⟨by decide +kernel, .inl rfl⟩
  · exact .inr ⟨by decide +kernel, .inr (.inl rfl)⟩
  · exact .inr ⟨by decide +kernel, .inr (.inr rfl)⟩
theorem n_roww : ("row" : Str) ≠ "weights" := by decide +kernel
/-- the number of the entry that speaks at a cell, in any manner -/
def whoN (man : Str) (ws : List Int) (es : List Ent) (ms : List Int) : Option Nat :=
  if man = "row" then (fitN es ms).head? else match lawRes (fitN es ms) (beatA man ws es) with
    | .ent j => some j
    | _ => none
/-- the form that is heard at a cell -/
def heard (man : Str) (ws : List Int) (es : List Ent) (ms : List Int) : Option Str := match whoN man ws es ms with
  | some j => (es[j]?).map (·.2)
  | none => none
def heardAll (man : Str) (ws : List Int) (es : List Ent) (cells : List (List Int)) : List (Option Str) := cells.map (heard man ws es)
def numV : Option Nat → V
  | some j => .int (j : Int)
  | none => .non
theorem who_row (ws : List Int) (es : List Ent) (ms : List Int) : numV (whoN "row" ws es ms) = hd1 (fitN es ms) := by
  unfold whoN
  rw [if_pos rfl]
  cases fitN es ms <;> rfl
theorem who_res {man : Str} (h : man ≠ "row") (ws : List Int) (es : List Ent) (ms : List Int) : numV (whoN man ws es ms) = resV (lawRes (fitN es ms) (beatA man ws es)) := by
  unfold whoN
  rw [if_neg h]
  cases lawRes (fitN es ms) (beatA man ws es) <;> rfl
theorem who_lt {man : Str} {ws : List Int} {es : List Ent} {ms : List Int} {j : Nat} (h : whoN man ws es ms = some j) : j < es.length := by
  unfold whoN at h
  split at h
  · exact fit_lt j (List.mem_of_mem_head? h)
  · rcases lawRes_cases (beatA_ok man ws es) (fit_nd es ms) with ⟨_, r⟩ | ⟨n, hw, r⟩ | ⟨_, _, r⟩
    · rw [r] at h; cases h
    · rw [r] at h
      obtain rfl := Option.some.inj h
      exact fit_lt _ hw.1
    · rw [r] at h; cases h
theorem heard_at {man : Str} {ws : List Int} {es : List Ent} {ms : List Int} {j : Nat} {e : Ent} (h : whoN man ws es ms = some j) (he : es[j]? = some e) : heard man ws es ms = some e.2 := by
  unfold heard
  rw [h]
  show (es[j]?).map (·.2) = _
  rw [he]
  rfl
theorem heard_non {man : Str} {ws : List Int} {es : List Ent} {ms : List Int} (h : whoN man ws es ms = none) : heard man ws es ms = none := by
  unfold heard
  rw [h]
theorem heard_mem {man : Str} {ws : List Int} {es : List Ent} {ms : List Int} {z : Str} (h : heard man ws es ms = some z) : z ∈ es.map (·.2) := by
  unfold heard at h
  split at h
  · rename_i j _
    obtain ⟨e, he, rfl⟩ := Option.map_eq_some_iff.mp h
    exact List.mem_map_of_mem (List.mem_of_getElem? he)
  · cases h
theorem heardAll_mem {man : Str} {ws : List Int} {es : List Ent} {cells : List (List Int)} {z : Str} (h : some z ∈ heardAll man ws es cells) : z ∈ es.map (·.2) := by
  obtain ⟨c, _, e⟩ := List.mem_map.mp h
  exact heard_mem e
theorem heardAll_len (man : Str) (ws : List Int) (es : List Ent) (cells : List (List Int)) : (heardAll man ws es cells).length = cells.length := by unfold heardAll; rw [List.length_map]
theorem heardAll_at {man : Str} {ws : List Int} {es : List Ent} {cells : List (List Int)} {i : Nat} {c : List Int} (h : cells[i]? = some c) : (heardAll man ws es cells)[i]? = some (heard man ws es c) := by
  unfold heardAll
  rw [List.getElem?_map, h]
  rfl
/-- forms out of few words -/
theorem forms_few {n : Nat} {fs : List (Option Str)} {zs : List Str} (len : fs.length = n) (few : n ≤ 24) (ok : ∀ z ∈ zs, WordOk z) (le : zs.length ≤ 12) (all : ∀ z, some z ∈ fs → z ∈ zs) : FormsOk n fs :=
  ⟨len, few, fun z hz => ok z (all z hz), fun us rise => Nat.le_trans (List.Nodup.length_le_of_subset rise.nd fun x hx => all x ((rise.all x).mp hx)) le⟩
theorem words_ok {es : List Ent} (h : ∀ e ∈ es, EntOk e) : ∀ z ∈ es.map (·.2), WordOk z := fun z hz => by
  obtain ⟨e, he, rfl⟩ := List.mem_map.mp hz
  exact (h e he).w
/-- told forms that are due, number by number below i -/
def fits1 (fs due : List (Option Str)) (j : Nat) : Bool := decide (fs.getD j none = none) || decide (fs.getD j none = due.getD j none)
def agree (fs due : List (Option Str)) (i : Nat) : Bool := (List.range i).all (fits1 fs due)
theorem agree_next (fs due : List (Option Str)) (i : Nat) : agree fs due (i + 1) = (agree fs due i && fits1 fs due i) := by
  unfold agree
  rw [List.range_succ, List.all_append]
  simp
theorem agree_no {fs due : List (Option Str)} {i n : Nat} (h : fits1 fs due i = false) (hi : i < n) : agree fs due n = false := by
  cases e : agree fs due n with
  | false => rfl
  | true =>
    have := List.all_eq_true.mp e i (List.mem_range.mpr hi)
    rw [h] at this
    cases this
theorem agree_all {fs due : List (Option Str)} {n : Nat} (h : ∀ j, j < n → fs.getD j none = none ∨ fs.getD j none = due.getD j none) : agree fs due n = true := by
  unfold agree
  refine List.all_eq_true.mpr fun j hj => ?_
  unfold fits1
  rcases h j (List.mem_range.mp hj) with e | e
  · rw [decide_eq_true e, Bool.true_or]
  · rw [decide_eq_true e, Bool.or_true]
theorem fits1_at {fs due : List (Option Str)} {i : Nat} {f d : Option Str} (h : fs[i]? = some f) (k : due[i]? = some d) : fits1 fs due i = (decide (f = none) || decide (f = d)) := by
  unfold fits1
  rw [List.getD_eq_getElem?_getD, List.getD_eq_getElem?_getD, h, k]
  rfl
theorem formV_eq (f g : Option Str) : decide (formV f = formV g) = decide (f = g) := by
  cases f with
  | none => cases g <;> rfl
  | some y =>
    cases g with
    | none => rfl
    | some z =>
      rw [decide_eq_decide]
      exact ⟨fun h => by rw [V.str.inj h], fun h => by rw [Option.some.inj h]⟩
theorem formV_non (f : Option Str) : decide (formV f = V.non) = decide (f = none) := formV_eq f none
theorem forms_scal (f g : Option Str) : scal (formV f) (formV g) = true := by cases f <;> cases g <;> rfl
theorem cutFrom (xs : List V) (k : Nat) : cutV xs (some (k : Int)) none = xs.drop k := by
  unfold cutV
  have e1 : HT.sIx xs.length xs.length none = xs.length := rfl
  rw [e1, HT.sIx_nat]
  by_cases h : k ≤ xs.length
  · rw [Nat.min_eq_left h, List.take_of_length_le (by rw [List.length_drop]; exact Nat.le_refl _)]
  · rw [Nat.min_eq_right (by omega), List.drop_of_length_le (Nat.le_refl _), List.drop_of_length_le (by omega)]
    simp
theorem made_table {CF C x dx fam p pc : Addr} {H : Hp} {many : Int} {ys : List V} {fs : List (Option Str)} {Q : VK} {E : XK} (nx : H x = Option.none) (ndx : H dx = Option.none) (hf : FamAt CF H fam many pc) (hc : H pc = some (.tup ys)) (hp : H p = some (.tup (fs.map formV))) (ok : FormsOk ys.length fs)
    (G : ∀ H', TabAt C H' x fam p → Same H H' → Q .non H') : spTab CF C [.ref x, .ref fam, .ref p] (upd (upd H dx (.own x)) x (.ins C dx [])) Q E := by
  have s3 : Same H (upd (upd H dx (.own x)) x (.ins C dx [])) := fun b o e => by rw [upd_ne (ne_of_none e nx), upd_ne (ne_of_none e ndx)]; exact e
  obtain ⟨df, hf⟩ := hf
  refine ⟨x, dx, fam, many, pc, ys, p, fs, rfl, upd_same, ⟨df, s3 _ _ hf⟩, (ne_of_none hf nx).symm, s3 _ _ hc, s3 _ _ hp, ok, fun H' ht kp => ?_⟩
  exact G H' ht fun b o e => kp b o (s3 b o e) (ne_of_none e nx)
/-- some of the told forms are opened -/
def Less (due gs : List (Option Str)) : Prop := ∀ (j : Nat) (x : Option Str), gs[j]? = some x → x = none ∨ due[j]? = some x
theorem Less.agree {due gs : List (Option Str)} (h : Less due gs) (n : Nat) (hn : n ≤ gs.length) : agree gs due n = true := agree_all fun j hj => by
  have g := List.getElem?_eq_getElem (show j < gs.length by omega)
  rcases h j _ g with e | e
  · left; rw [List.getD_eq_getElem?_getD, g, e]; rfl
  · right; rw [List.getD_eq_getElem?_getD, List.getD_eq_getElem?_getD, g, e]
theorem Less.self (due : List (Option Str)) : Less due due := fun _ _ h => .inr h
theorem Less.mem {due gs : List (Option Str)} (h : Less due gs) {z : Str} (hz : some z ∈ gs) : some z ∈ due := by
  obtain ⟨j, hj⟩ := List.mem_iff_getElem?.mp hz
  rcases h j _ hj with e | e
  · cases e
  · exact List.mem_of_getElem? e
theorem Less.snoc {due gs : List (Option Str)} (h : Less due gs) {x : Option Str} (hx : x = none ∨ due[gs.length]? = some x) : Less due (gs ++ [x]) := fun j y hj => by
  by_cases lt : j < gs.length
  · rw [List.getElem?_append_left lt] at hj
    exact h j y hj
  · rw [List.getElem?_append_right (by omega)] at hj
    have : j - gs.length = 0 := by
      have := (List.getElem?_eq_some_iff.mp hj).1
      simp at this
      omega
    rw [this] at hj
    obtain rfl := Option.some.inj hj
    have : j = gs.length := by omega
    rw [this]
    exact hx
/-- a word put at a cell -/
def putAt (gs : List (Option Str)) (k : Nat) (z : Str) : List (Option Str) := gs.take k ++ [some z] ++ gs.drop (k + 1)
theorem putAt_len {gs : List (Option Str)} {k : Nat} {z : Str} (h : k < gs.length) : (putAt gs k z).length = gs.length := by
  unfold putAt
  rw [List.length_append, List.length_append, List.length_take, List.length_drop, List.length_singleton]
  omega
theorem putAt_get {gs : List (Option Str)} {k : Nat} {z : Str} (h : k < gs.length) (j : Nat) : (putAt gs k z).getD j none = if j = k then some z else gs.getD j none := by
  have e : putAt gs k z = gs.set k (some z) := by
    unfold putAt
    rw [List.set_eq_take_append_cons_drop, if_pos h, List.append_assoc]
    rfl
  rw [e, List.getD_eq_getElem?_getD, List.getD_eq_getElem?_getD, List.getElem?_set]
  by_cases q : k = j
  · subst q
    rw [if_pos rfl, if_pos rfl, if_pos h]
    rfl
  · rw [if_neg q, if_neg fun x => q x.symm]
theorem putAt_mem {gs : List (Option Str)} {k : Nat} {z y : Str} (h : some y ∈ putAt gs k z) : y = z ∨ some y ∈ gs := by
  unfold putAt at h
  rcases List.mem_append.mp h with h | h
  · rcases List.mem_append.mp h with h | h
    · exact .inr (List.mem_of_mem_take h)
    · exact .inl (Option.some.inj (List.mem_singleton.mp h))
  · exact .inr (List.mem_of_mem_drop h)
theorem putAt_agree {due gs : List (Option Str)} {k : Nat} {z : Str} {d : Option Str} (h : Less due gs) (lt : k < gs.length) (hd : due[k]? = some d) : agree (putAt gs k z) due gs.length = decide (d = some z) := by
  have at_ : fits1 (putAt gs k z) due k = decide (d = some z) := by
    unfold fits1
    rw [putAt_get lt, if_pos rfl, List.getD_eq_getElem?_getD, hd]
    show (decide (some z = none) || decide (some z = d)) = _
    by_cases q : d = some z
    · simp [q]
    · have q' : ¬ some z = d := fun e => q e.symm
      simp [q, q']
  by_cases q : d = some z
  · rw [decide_eq_true q]
    refine agree_all fun j hj => ?_
    rw [putAt_get lt]
    by_cases e : j = k
    · rw [if_pos e, e, List.getD_eq_getElem?_getD, hd, q]
      exact .inr rfl
    · rw [if_neg e]
      have g := List.getElem?_eq_getElem hj
      rcases h j _ g with r | r
      · left; rw [List.getD_eq_getElem?_getD, g, r]; rfl
      · right; rw [List.getD_eq_getElem?_getD, List.getD_eq_getElem?_getD, g, r]
  · rw [decide_eq_false q] at at_ ⊢
    exact agree_no at_ lt
theorem open_less (due : List (Option Str)) (n : Nat) : Less due (List.replicate n none) := fun j x h => .inl (by
  rw [List.getElem?_replicate] at h
  split at h
  · exact (Option.some.inj h).symm
  · cases h)
theorem open_forms (n : Nat) : (List.replicate n (none : Option Str)).map formV = List.replicate n .non := by rw [List.map_replicate]; rfl
theorem part_lo {xs : List V} {k : Nat} (h : k < xs.length) : ¬ (HT.sIx xs.length 0 none = 0 ∧ HT.sIx xs.length xs.length (some (k : Int)) = xs.length) := fun w => by
  have := w.2
  rw [HT.sIx_nat] at this
  omega
theorem part_hi {xs : List V} {k : Nat} (h : k < xs.length) : ¬ (HT.sIx xs.length 0 (some ((k : Int) + 1)) = 0 ∧ HT.sIx xs.length xs.length none = xs.length) := fun w => by
  have := w.1
  rw [show ((k : Int) + 1) = ((k + 1 : Nat) : Int) by omega, HT.sIx_nat] at this
  omega
end Xci

namespace Xci
open PySem PySem.Spec PyProof.Rows L2 NdefX
/-! own exceptions whose __init__ says super().__init__(a text), and then fields -/
/-- what the written part says of such a class C: F is its __init__, made at fI; cc is the cell that holds C -/
structure XCls (P : Program) (K : PySem.W.Frag) (mg : Str → Option Value) (C fI cc : Addr) (F : NF) : Prop where
  ox : OexC K C
  lk : ∃ oc od osl kV doc pm an ct, K.lookup fI = some ⟨oc, od, .func (PySem.W.fnX F.name F.qual F.params F.body F.scope F.cl .none kV doc pm an (.ref F.c) ct), osl⟩
  cl : F.cl = [(("__class__" : Str), cc)]
  cd : PySem.W.codeIn K (.ref F.c) F.qual = true
  co : ∃ a b c vs file tf, K.lookup F.c = some ⟨a, b, .fields vs, c⟩ ∧ vs[2]? = some (.str file tf) ∧ ((P.main.file : Str) == file) = true
  ce : ∃ a b c, K.lookup cc = some ⟨a, b, .cell (some (.ref C)), c⟩
  mro : PySem.W.mroIn K C (.ref C) = some true
  sup : PySem.W.ks_superIn K C C "__init__" = some (some (.builtin "ValueError.__init__"))
  ve : PySem.W.subIn K (.ref C) (.type "ValueError") = some true
  op : PySem.W.nsIn K cStatics "thirdparty.any" = some none
  msu : mg "super" = none
  top : (P.main.scope.names.lookup ("super" : Str)).isSome = false
/-- what its text says: the names of the def -/
structure XTxt (F : NF) : Prop where
  su : F.scope.names.lookup ("super" : Str) = some .globalImplicit
  cl : F.scope.names.lookup ("__class__" : Str) = some .free
  se : F.scope.names.lookup ("self" : Str) = some .local
  kind : F.scope.kind = .function
  fst : ∃ ar, (F.params.posonlyargs ++ F.params.args).head? = some ar ∧ ar.arg = ("self" : Str)
theorem clsIn_of_ox {K : PySem.W.Frag} {C : Addr} (T : OexC K C) : ∃ cd, PySem.W.clsIn K C = some cd := by
  obtain ⟨nm, q, N, bs, bm, sn, sub, ab, col, dd, k0, k1, k2, k3, k5, hC, _⟩ := T.cls
  unfold PySem.W.clsIn
  rw [hC]
  exact ⟨_, rfl⟩
section
variable {CX : CXT} {P : Program} {w : World} {K : PySem.W.Frag} {mg : Str → Option Value} {base : Heap} {N : List Str} {F : NF} {fI C cc a : Addr} {A : Around} {outer : List Env} {s₀ : Shared} {H₀ : Hp} {E : XK}
variable {pins : List (Addr × Obj)} {σ : L2.St} {H : Hp} {s : Shared} {EE : Value → Shared → Prop}
/-- the built-in __init__, bound to the exception that is being made, called -/
theorem bound_init {X : Cx} {u : Addr} {ws : List Value} {A' : Around} {Q : Value → Shared → Prop} (T : OexC X.K C) (I : Inv X pins σ H s) (ea : H a = some (exo a C none)) (hl : ws.length ≤ sizeLine)
    (hu : s.heap.get? u = some (PySem.W.kxs_mw "ValueError.__init__" a)) (q : ∀ s', Inv X pins σ H s' → Q .none s') : wpAny (model X.prog X.w) A' (call (.ref u) ws) Q EE s := by
  obtain ⟨nm, qn, nsp, bs, bm, sn, sub, ab, col, dd, k0, k1, k2, k3, k5, hC, hbm⟩ := T.cls
  obtain ⟨t1, ho⟩ := exo_at I.hok ea
  have hCs := I.kIn _ _ hC
  obtain ⟨hp, g, d, t, os⟩ := s
  refine wpAny_call (codeAny_of_tree ?_)
  show wpAny _ A'.in1 (callAny (.ref u) ⟨ws, []⟩) _ _ _
  simp only [callAny]
  refine wpAny_bind (wpAny_load hu ?_)
  simp only [PySem.W.kxs_mw, show (Value.type "method-wrapper" == Value.type "method" || Value.type "method-wrapper" == Value.type "builtin_function_or_method" || Value.type "method-wrapper" == Value.type "method-wrapper") = true by decide, if_true]
  refine PySem.W.KFB.if_so (by decide) (wpAny_bind (PySem.W.check_bound_init F.excBase_ValueError.toExcCallFacts hCs ho rfl (wpAny_bind (wpAny_pure (wpAny_pure ?_)))))
  refine ⟨plainId_quiet F.excBase_ValueError.init.plain _, codeAny_builtin F.excBase_ValueError.initEntry ?_⟩
  refine PySem.W.exc_init_tree (cls := .ref C) (t0 := t1) (dv := none) (c2 := .none) (c3 := .none) (b4 := .bool false) ho hl fun h' k hx _ => ?_
  have J := I.write (t' := t) (x := a) (e := a) (o := exo a C none) (by rw [ea]; exact True.intro) (.inl rfl) k ⟨_, hx⟩ (exo_ok hx)
  have eu : upd H a (exo a C none) = H := funext fun b => by
    by_cases hb : b = a
    · subst hb; exact upd_same.trans ea.symm
    · exact upd_ne hb
  rw [eu] at J
  exact q _ J
/-- super().__init__(a text), the first statement of such a def: nothing of it is told -/
theorem super_step {p0 p1 p2 p3 p4 : Pos} {txt : Str} {j : Nat} {pc : Pos} {pl : Sem Bool} {Q : Flow → Shared → Prop} (XC : XCls P K mg C fI cc F) (XT : XTxt F)
    (I : Inv (ncx CX P w K mg base N F fI A outer s₀ H₀ E) pins σ H s) (h0 : N[0]? = some ("self" : Str)) (hσ : σ[0]? = some (some (.ref a))) (ea : H a = some (exo a C none))
    (q : ∀ s', Inv (ncx CX P w K mg base N F fI A outer s₀ H₀ E) pins σ H s' → Q .next s')
    (he : eval (.Call (.Attribute (.Call (.Name "super" p0) [] [] p1) "__init__" p2) [.Constant (.str txt) j pc] [] p3) (envF F fI s₀.heap.objs.size) = (do
      let o ← attributeBase (.Call (.Name "super" p0) [] [] p1) "__init__" (envF F fI s₀.heap.objs.size) (eval (.Call (.Name "super" p0) [] [] p1) (envF F fI s₀.heap.objs.size))
      standAt p2.atName
      let (g, l) ← holding [o] (getMethod o "__init__" pl)
      callWith p3 g l (backTo p3 (starEach [.Constant (.str txt) j pc] (envF F fI s₀.heap.objs.size))) [])) :
    _root_.PySem.wpAt (model P w) (A.deeper (envF F fI s₀.heap.objs.size)) (.func F.body (envF F fI s₀.heap.objs.size))
      (exec (.Expr (.Call (.Attribute (.Call (.Name "super" p0) [] [] p1) "__init__" p2) [.Constant (.str txt) j pc] [] p3) p4) (envF F fI s₀.heap.objs.size)) Q
      (ncx CX P w K mg base N F fI A outer s₀ H₀ E).xe s := by
  obtain ⟨m, hns, hl⟩ := I.loc
  obtain ⟨u, ru, hlook⟩ := hl 0 "self" (.ref a) h0 hσ (.inl XT.se)
  obtain rfl : u = Value.ref a := ru
  have hm : m "self" = some (.ref a) := by
    rcases hlook with ⟨_, z⟩ | ⟨z, _⟩
    · exact z
    · exfalso
      have e := XT.se
      rcases z with z | z
      · exact absurd (e.symm.trans z) (by decide)
      · exact absurd (e.symm.trans z) (by decide)
  obtain ⟨oc, od, osl, kV, doc, pm, an, ct, hf⟩ := XC.lk
  obtain ⟨c1, c2, vs, c3, file, tf, hco, hvs, hfile⟩ := XC.co
  obtain ⟨b1, b2, b3, hce⟩ := XC.ce
  obtain ⟨ar, har, har2⟩ := XT.fst
  obtain ⟨cdD, hcd⟩ := clsIn_of_ox XC.ox
  obtain ⟨t1, ho⟩ := exo_at I.hok ea
  have kin : K.In s.heap := I.kIn
  obtain ⟨oD, hD1, hD2⟩ : ∃ oD, s.heap.get? C = some oD ∧ oD.data = .cls cdD := by
    unfold PySem.W.clsIn at hcd
    split at hcd
    · next z =>
      cases hcd
      exact ⟨_, kin _ _ z, rfl⟩
    · cases hcd
  have isC : PySem.W.InstAt s.heap a ({ cls := .ref C, dict := none, data := .fields #[.ref t1, .none, .none, .none, .bool false, .none] } : Obj) C none := ⟨ho, rfl, rfl, trivial⟩
  obtain ⟨mb, blt1, blt2⟩ := I.mod.blt
  have glb : s.heap.Ns mainGlobals mg := I.mod.glob.keeps I.bk
  have bns : s.heap.Ns builtinsNs mb := blt1.keeps I.bk
  have bsu : mb "super" = some (.type "super") := (blt2 _ (by decide)).trans (by decide +kernel)
  have hi : interactive (envF F fI s₀.heap.objs.size) = false := by
    unfold interactive
    rw [show (envF F fI s₀.heap.objs.size).scope.kind = .function from XT.kind]
    rfl
  refine PySem.ks_wpAt_Expr_any (PySem.ks_wpAt_MethodCall ?_ he) hi
  refine PySem.ks_wpAt_super_base XT.su XT.cl rfl rfl (kin _ _ hf) rfl har rfl (kin _ _ hco) rfl hvs hfile XC.top ?_
  refine PySem.W.ks_loadName_global XT.kind XT.su (Calls.loadGlobal_builtin glb XC.msu bns bsu ⟨rfl, ?_⟩)
  refine wpAny_loadName_free (c := cc) XT.kind XT.cl (by show List.lookup _ F.cl = _; rw [XC.cl]; rfl) ⟨_, kin _ _ hce, rfl⟩ ?_
  refine wpAny_loadName_local XT.kind (by rw [har2]; exact XT.se) hns (by rw [har2]; exact hm) ?_
  obtain ⟨hp, g, d, t, os⟩ := s
  refine PySem.ks_wpAny_isType_cls hD1 hD2 ⟨rfl, ?_⟩
  refine PySem.ks_wpAny_call_super hD1 hD2 ho rfl (fun c e => ?_) (PySem.W.looks_mroIn kin XC.mro) (fun h' hso k => ?_)
  · cases e
  have I1 : Inv (ncx CX P w K mg base N F fI A outer s₀ H₀ E) pins σ H ⟨h', g, d, t, os⟩ := I.kept (t' := t) k
  have kin1 : K.In h' := kin.keeps k
  have hsup := XC.sup
  unfold PySem.W.ks_superIn at hsup
  rw [hcd] at hsup
  have isI : PySem.W.Looks (model P w) h' (isInstance (.ref a) (.type "ValueError")) true :=
    (PySem.W.InstAt.type (od := none) (h := h') ⟨k _ _ ho, rfl, rfl, trivial⟩).andThen (PySem.W.looks_subIn kin1 XC.ve)
  refine PySem.W.kxs_getMethod PySem.W.kxs_ValueError hso (PySem.W.looks_opaque kin1 XC.op) (l₀ := cdD.mro) ?_ rfl kin1 hsup isI (PySem.W.ks_ne kin isC hcd) (by decide) ?_
  · exact fun A' Q' E' s' z y => wpAny_bind (PySem.W.looks_clsIn kin1 hcd A' _ E' s' z (wpAny_pure y))
  have k2 : ∀ b o, h'.get? b = some o → (h'.push (PySem.W.kxs_mw "ValueError.__init__" a)).get? b = some o := fun b o z => Heap.get?_push_of_some _ z
  have I2 : Inv (ncx CX P w K mg base N F fI A outer s₀ H₀ E) pins σ H ⟨h'.push (PySem.W.kxs_mw "ValueError.__init__" a), g, d, t + 1, os⟩ := I1.kept (t' := t + 1) k2
  have hmw : (h'.push (PySem.W.kxs_mw "ValueError.__init__" a)).get? h'.objs.size = some (PySem.W.kxs_mw "ValueError.__init__" a) := Heap.get?_push_at rfl rfl
  show wpAny _ _ (callWith p3 (.ref h'.objs.size) [] (backTo p3 (starEach [.Constant (.str txt) j pc] _)) []) _ _ _
  have I3 : Inv (ncx CX P w K mg base N F fI A outer s₀ H₀ E) ((h'.objs.size, PySem.W.kxs_mw "ValueError.__init__" a) :: pins) σ H ⟨h'.push (PySem.W.kxs_mw "ValueError.__init__" a), g, d, t + 1, os⟩ := I2.pins_of fun p hp => by
    rcases List.mem_cons.mp hp with e | hp
    · subst e
      refine ⟨hmw, I1.hok.fresh (Nat.le_refl _), fun z => ?_, I1.nofs (Nat.le_refl _), fun v z => by cases z⟩
      have := I1.lt
      rw [← z] at this
      exact absurd this (Nat.lt_irrefl _)
    · exact I2.pin p (List.mem_append_right _ hp)
  refine PySem.W.kxs_callWith (i := "ValueError.__init__") (x := a) rfl (Calls.evalArgs_plain (thn ((pa_cons pe_str pa_nil).run p3 _ _ σ H (fun vs H1 => H1 = H ∧ vs.length = 1) I3 ⟨rfl, rfl⟩) fun us s1 ⟨vs', H1, J, r1, e1, e2⟩ => ?_))
  subst e1
  have hm1 := J.pin (h'.objs.size, PySem.W.kxs_mw "ValueError.__init__" a) (List.mem_append_right _ (List.mem_cons_self ..))
  refine ⟨hm1.1, ?_⟩
  have J' : Inv (ncx CX P w K mg base N F fI A outer s₀ H₀ E) pins σ H1 s1 := J.pins_of fun p hp => J.pin p (List.mem_append_right _ (List.mem_cons_of_mem _ hp))
  refine bound_init XC.ox J' ea ?_ hm1.1 q
  have := r1.length
  show ([] ++ us).length ≤ sizeLine
  rw [List.nil_append, ← this, e2]
  decide
/-- such an __init__ by what stands behind its first statement -/
theorem init_fn {ps : List Str} {k : Nat} {sp : Sp} {p0 p1 p2 p3 p4 : Pos} {txt : Str} {j : Nat} {pc : Pos} {pl : Addr → Sem Bool} {rest : List Stmt} (XC : XCls P K mg C fI cc F) (XT : XTxt F) (S : NScope N ps ["__class__"] F.scope) (h0 : N[0]? = some ("self" : Str))
    (hb : F.body = .Expr (.Call (.Attribute (.Call (.Name "super" p0) [] [] p1) "__init__" p2) [.Constant (.str txt) j pc] [] p3) p4 :: rest)
    (hbind : ∀ (kV doc pm ct : Value) (an : Option Addr) (us : List Value), us.length = ps.length → bindArgs (PySem.W.fnX F.name F.qual F.params F.body F.scope F.cl .none kV doc pm an (.ref F.c) ct) ⟨us, []⟩ = pure (ps.zip us))
    (he : ∀ L : Addr, eval (.Call (.Attribute (.Call (.Name "super" p0) [] [] p1) "__init__" p2) [.Constant (.str txt) j pc] [] p3) (envF F fI L) = (do
      let o ← attributeBase (.Call (.Name "super" p0) [] [] p1) "__init__" (envF F fI L) (eval (.Call (.Name "super" p0) [] [] p1) (envF F fI L))
      standAt p2.atName
      let (g, l) ← holding [o] (getMethod o "__init__" (pl L))
      callWith p3 g l (backTo p3 (starEach [.Constant (.str txt) j pc] (envF F fI L))) []))
    (hsp : ∀ vs H Q E, sp vs H Q E → vs.length = ps.length ∧ ∃ a ws, vs = V.ref a :: ws ∧ H a = some (exo a C none))
    (hrest : ∀ (A : Around) (outer : List Env) (s : Shared) (H : Hp) (vs : List V) (Q : VK) (E : XK), Room k (A.deeper (envF F fI s.heap.objs.size)) → sp vs H Q E →
      ∃ t, PSs (ncx CX P w K mg base N F fI A outer s H E) rest t ∧ t { nx := fun _ H' => Q .non H', rt := Q } (startF N vs [none]) H) :
    ∃ fd, FnOk P w K mg base CX (k + 1) fI fd ps sp ∧ Binds K fd ps [] := by
  obtain ⟨oc, od, osl, kV, doc, pm, an, ct, hf⟩ := XC.lk
  obtain ⟨b1, b2, b3, hce⟩ := XC.ce
  refine ⟨_, ⟨fun vs H Q E q => (hsp vs H Q E q).1, fun A outer s H args us vs Q E hr e0 hbi r q => ?_⟩, .all (hbind kV doc pm ct an)⟩
  obtain ⟨hl, a, ws, ev, ea⟩ := hsp vs H Q E q
  have kb : ∀ b o, base.get? b = some o → s.heap.get? b = some o := fun b o z => (e0.bs b o z).1
  have kin : K.In s.heap := e0.mod.kin.keeps kb
  have hcc : List.lookup ("__class__" : Str) F.cl = some cc := by rw [XC.cl]; rfl
  have only : ∀ (y : Str) (c : Addr), List.lookup y F.cl = some c → y = "__class__" ∧ c = cc := fun y c z => by
    rw [XC.cl] at z
    by_cases e : y = "__class__"
    · subst e
      cases z
      exact ⟨rfl, rfl⟩
    · have e' : (y == ("__class__" : Str)) = false := by simpa using e
      simp [List.lookup, e'] at z
  have cells : CellsAt F.cl ["__class__"] [none] s.heap H := ⟨rfl, fun y c z => by
      obtain ⟨_, rfl⟩ := only y c z
      exact ⟨(e0.bs _ _ (e0.mod.kin _ _ hce)).2, _, _, kin _ _ hce, rfl⟩, fun x y c z1 z2 => by rw [(only x c z1).1, (only y c z2).1], fun i y z => by
      cases i with
      | zero =>
        cases z
        exact ⟨cc, hcc, fun v z => by cases z⟩
      | succ i => cases z⟩
  refine PySem.ks_codeAny_call_defAt (body := F.body) (binds := ps.zip us) hr.depth (kin _ _ hf) rfl (e0.mod.nolimit.keeps kb) (PySem.W.codeRec_of kin XC.cd) rfl hbi S.nocell (fun ⟨n, _⟩ hy => S.par n (List.of_mem_zip hy).1) (fun h₁ hns hk₁ => ?_) S.co S.gen S.kind
  have I : Inv (ncx CX P w K mg base N F fI A outer s H E) [] (startF N vs [none]) H { s with heap := h₁, toks := s.toks + (ps.zip us).length } := inv_startN S hr.hd e0 hl r cells hns hk₁
  have hst : (startF N vs [none])[0]? = some (some (.ref a)) := by rw [ev]; rfl
  obtain ⟨t, ht, hq⟩ := hrest A outer s H vs Q E (hr.deeper _) q
  have fin : ∀ {s' : Shared} {σ' : L2.St} {H' : Hp} {v : V} {u : Value}, Inv (ncx CX P w K mg base N F fI A outer s H E) [] σ' H' s' → L2.RelV v u → Q v H' → CE outer P w H s Q u s' :=
    fun {s' σ' H' v u} J rv q => ⟨v, H', J.os, J.bare, J.base, J.hok, rv, q⟩
  show PySem.wpAt _ _ (.func F.body (envF F fI s.heap.objs.size)) (execs F.body (envF F fI s.heap.objs.size)) _ _ _
  rw [show execs F.body (envF F fI s.heap.objs.size) = execs (_ :: rest) (envF F fI s.heap.objs.size) from congrArg (execs · _) hb]
  refine PySem.ks_wpAt_execs_cons (super_step XC XT I h0 hst ea (fun s' J => ?_) (he _))
  show PySem.wpAt _ _ _ (execs rest _) _ _ _
  refine wpAt_of_wpAny (wpAny_mono (ht.run [] _ _ _ _ J hq) (fun fl s'' hs => ?_) fun e s'' hs => hs)
  cases fl with
  | ret u =>
    obtain ⟨v, σ', H', J', rv, q'⟩ := hs
    exact fin J' rv q'
  | next =>
    obtain ⟨σ', H', J', q'⟩ := hs
    exact fin (v := V.non) (u := Value.none) J' rfl q'
  | brk =>
    obtain ⟨_, _, _, q'⟩ := hs
    exact False.elim q'
  | cont =>
    obtain ⟨_, _, _, q'⟩ := hs
    exact False.elim q'
end
/-! ### the promises of the two kinds of such an __init__, and of more fields -/
def spX0 (C : Addr) : Sp := fun vs H Q _ => ∃ a, vs = [.ref a] ∧ H a = some (exo a C none) ∧ Q .non H
def spX1 (C : Addr) (f : Str) : Sp := fun vs H Q _ => ∃ a v, vs = [.ref a, v] ∧ H a = some (exo a C none) ∧ ∀ dx, H dx = none → dx ≠ a → Q .non (upd (upd H dx (exd dx [(f, v)])) a (exo a C (some dx)))
def spX2 (C : Addr) (f g : Str) : Sp := fun vs H Q _ => ∃ a v u, vs = [.ref a, v, u] ∧ H a = some (exo a C none) ∧
  ∀ dx, H dx = none → dx ≠ a → Q .non (upd (upd (upd H dx (exd dx [(f, v)])) a (exo a C (some dx))) dx (exd dx [(g, u), (f, v)]))
/-! ### C() of such a class without fields -/
section
variable {X : Cx} {pins : List (Addr × Obj)} {σ : L2.St} {H : Hp} {Q : XK} {e C : Addr}
/-- the exception is let go -/
theorem mk_bare {hp hp2 h2 : Heap} {g1 g2 : Array GenState} {d1 d2 : Drawn} {t1 t2 : Nat} {os1 os2 : OsState} (T : Raises X (.ref C)) (I : Inv X pins σ H ⟨hp, g1, d1, t1, os1⟩) (he : hp.objs.size ≤ e)
    (kk : ∀ b o, hp.get? b = some o → hp2.get? b = some o) (un : Un (frs X.stack) [] (upd H e (exo e C none)) (upd H e (exo e C none)) hp2 h2) (hok : HOk X.prog X.w (upd H e (exo e C none)) h2) (ho : os2 = os1) (hb : AllBare g2)
    (q : Q (.ref C) none H) : MkP X pins σ Q (.ref e) ⟨h2, g2, d2, t2, os2⟩ := by
  obtain ⟨t0, hoe⟩ := exo_at hok upd_same
  have hn : H e = none := I.hok.fresh he
  obtain ⟨G, gin, gout⟩ := restrict h2 fun b => decide (b ≠ e)
  have at_ : ∀ b, b ≠ e → G.get? b = h2.get? b := fun b z => gin b (decide_eq_true z)
  have off : G.get? e = none := gout e (by simp)
  have old : ∀ {b : Addr} {o : Obj}, hp.get? b = some o → b ≠ e := fun {b o} z => Nat.ne_of_lt (Nat.lt_of_lt_of_le (Heap.lt_size z) he)
  have trk : ∀ {b : Addr} {o : HO}, H b = some o → b ≠ e := fun {b o} z y => by rw [y, hn] at z; cases z
  have free_ : ∀ {b : Addr} {o : Obj}, hp.get? b = some o → H b = none → upd H e (exo e C none) b = none := fun {b o} z n => (upd_ne (old z)).trans n
  have U : Un (frs X.stack) [] H H hp G := {
    keep := fun b o z n h1 h2 => (at_ b (old z)).trans (un.keep b o (kk b o z) (free_ z n) h1 h2)
    slot := fun b o z n h1 h2 => by
      obtain ⟨sl, y⟩ := un.slot b o (kk b o z) (free_ z n) h1 h2
      exact ⟨sl, (at_ b (old z)).trans y⟩
    free := fun b o z n h1 => n
    there := fun b o z h1 => by
      obtain ⟨o', y⟩ := un.there b o (kk b o z) h1
      exact ⟨o', (at_ b (old z)).trans y⟩
    tups := fun b xs z => z
    frzs := fun b o v z => z
    tbls := fun b ps z => ⟨#[], by rw [z]; simp⟩ }
  have hok' : HOk X.prog X.w H G := fun b o z => by
    have hbe := trk z
    refine (hok b o ((upd_ne hbe).trans z)).stay (fun c v hc y => ?_) (fun c hc => ?_) (fun c xs hc => ?_)
    · have hce : c ≠ e := by
        rcases hc with hc | hc
        · rw [hc]; exact hbe
        · exact at_ne upd_same hc exo_own
      exact (at_ c hce).trans y
    · rwa [upd_ne (at_ne upd_same hc exo_own)] at hc
    · rwa [upd_ne (at_ne upd_same hc exo_tup)] at hc
  have J : Inv X pins σ H ⟨G, g2, d2, t2, os2⟩ := I.call' (ch := []) ho U hok' hb (fun b z => absurd z (by simp))
  refine ⟨e, _, _, ⟨G, g2, d2, t2, os2⟩, _, .ref C, none, rfl, J, fun b o z => ?_, off, hoe, ⟨rfl, rfl⟩, rfl, rfl, hn, rfl, hb, T, q⟩
  by_cases hbe : b = e
  · rw [hbe, off] at z; cases z
  · exact (at_ b hbe).symm.trans z
theorem pmk_x0 {CX : CXT} {x : Str} {fI : Addr} {k : Nat} {fd : FuncData} {p pos : Pos} (T : OexC X.K C) (iC : PySem.W.findIn X.K (.ref C) "__init__" = some (some (.ref fI))) (tI : PySem.W.typeIn X.K (.ref fI) = some (.type "function"))
    (F1 : FnOk X.prog X.w X.K X.mg X.base CX k fI fd ["self"] (spX0 C)) (hr : Room (k + 1) X.A) (hb : Binds X.K fd ["self"] []) (hx : Passes CX X (fun _ _ _ => False)) (hg : Gl X x) (hm : X.mg x = some (.ref C))
    (hdb : (x == ("__debug__" : Str)) = false := by decide) : PMk X (.Call (.Name x p) [] [] pos) (fun _ H Q => Q (.ref C) none H) := by
  intro pins s σ H Q I h
  obtain ⟨nm, q, N, bs, bm, sn, sub, ab, col, dd, k0, k1, k2, k3, k5, hC, hbm⟩ := T.cls
  refine wpAny_Call_Name_kw (ld_glob I hg hm ?_ hdb)
  refine PySem.W.callWith_K0 I.kIn T.kC ?_
  obtain ⟨hp, g, dr, tk, os⟩ := s
  have hsz : hp.objs.size ≤ hp.objs.size + 1 := Nat.le_succ _
  have kk : ∀ b o, hp.get? b = some o → ((hp.push (PySem.W.kdv_tup [])).push (PySem.HandSPX.excO C hp.objs.size)).get? b = some o := fun b o z => Heap.get?_push_of_some _ (Heap.get?_push_of_some _ z)
  have hget : ((hp.push (PySem.W.kdv_tup [])).push (PySem.HandSPX.excO C hp.objs.size)).get? (hp.objs.size + 1) = some (PySem.HandSPX.excO C hp.objs.size) := by heap_get
  have I2 := I.laid (t' := tk) (a := hp.objs.size + 1) (o := exo (hp.objs.size + 1) C none) kk hsz (exo_ok hget)
  refine wpAny_call (PySem.HandSPX.call_own F.excBase_ValueError (fun Y => PySem.HandSPX.refsVE_contains Y bm hbm) (I.kIn _ _ hC) (PySem.W.looks_findIn I.kIn iC) (fun self => PySem.W.bind_fn I.kIn self tI) (Nat.zero_le _)
    (codeAny_mono (F1.run _ X.stack _ _ ⟨[Value.ref (hp.objs.size + 1)], []⟩ [Value.ref (hp.objs.size + 1)] [V.ref (hp.objs.size + 1)] (fun v H2 => v = .non ∧ H2 = upd H (hp.objs.size + 1) (exo (hp.objs.size + 1) C none)) (fun _ _ _ => False)
      (hr.make C [] []) (I2.env0.make C [] []) (hb _ [Value.ref (hp.objs.size + 1)] I2.kIn rfl) (.cons rfl .nil) ⟨_, rfl, upd_same, rfl, rfl⟩) fun r s' hq' => ?_))
  cases r with
  | error er => exact hx pins σ _ _ er s' I2 hq'
  | ok fl =>
    cases fl with
    | ret u =>
      obtain ⟨v, H2, os2, bare2, un2, hok2, rv, ev, eH⟩ := hq'
      subst ev eH
      obtain ⟨h2, g2, d2, t2, os'⟩ := s'
      exact ⟨rv, mk_bare (raises_own T.exC T.tyC) I hsz kk un2 hok2 os2 bare2 h⟩
    | next => exact False.elim hq'
    | brk => exact False.elim hq'
    | cont => exact False.elim hq'
end
end Xci

namespace Xci
open PySem PySem.Spec PyProof.Rows L2
/-! data of any kind, dicts with texts or numbers for keys among them; none of its objects is one of those that are kept out -/
abbrev Out := Addr → Prop
/-- all but what is kept out stands as before -/
def FrO (N : Out) (H H' : Hp) : Prop := ∀ b o, H b = some o → ¬ N b → H' b = some o
theorem FrO.same {N : Out} {H H' : Hp} (s : Same H H') : FrO N H H' := fun b o e _ => s b o e
theorem FrO.trans {N : Out} {H H1 H2 : Hp} (f : FrO N H H1) (g : FrO N H1 H2) : FrO N H H2 := fun b o e n => g b o (f b o e n) n
theorem FrO.fr {a : Addr} {H H' : Hp} (f : Fr a H H') : FrO (· = a) H H' := fun b o e n => f b o e n
def keyD : Key → PyData
  | .inl i => .int i
  | .inr x => .str x
mutual
inductive Dt (a : Out) (H : Hp) : V → PyData → Prop
  | non : Dt a H .non .none
  | bl (b : Bool) : Dt a H (.bl b) (.bool b)
  | int (i : Int) : Dt a H (.int i) (.int i)
  | str (x : Str) : Dt a H (.str x) (.str x)
  | lst {p : Addr} {xs : List V} {ds : List PyData} : ¬ a p → H p = some (.lst xs) → DtAll a H xs ds → Dt a H (.ref p) (.list ds)
  | tup {p : Addr} {xs : List V} {ds : List PyData} : ¬ a p → H p = some (.tup xs) → DtAll a H xs ds → Dt a H (.ref p) (.tuple ds)
  | dic {p : Addr} {kvs : List (Key × V)} {ds : List PyData} : ¬ a p → H p = some (.dK kvs) → DtAll a H (kvs.map (·.2)) ds → Dt a H (.ref p) (.dict ((kvs.map fun q => keyD q.1).zip ds))
inductive DtAll (a : Out) (H : Hp) : List V → List PyData → Prop
  | nil : DtAll a H [] []
  | cons {v : V} {vs : List V} {d : PyData} {ds : List PyData} : Dt a H v d → DtAll a H vs ds → DtAll a H (v :: vs) (d :: ds)
end
mutual
theorem Dt.fr {a : Out} {H H' : Hp} (f : FrO a H H') : ∀ {v : V} {d : PyData}, Dt a H v d → Dt a H' v d
  | _, _, .non => .non
  | _, _, .bl b => .bl b
  | _, _, .int i => .int i
  | _, _, .str x => .str x
  | _, _, .lst n h r => .lst n (f _ _ h n) (DtAll.fr f r)
  | _, _, .tup n h r => .tup n (f _ _ h n) (DtAll.fr f r)
  | _, _, .dic n h r => .dic n (f _ _ h n) (DtAll.fr f r)
theorem DtAll.fr {a : Out} {H H' : Hp} (f : FrO a H H') : ∀ {vs : List V} {ds : List PyData}, DtAll a H vs ds → DtAll a H' vs ds
  | _, _, .nil => .nil
  | _, _, .cons r rs => .cons (Dt.fr f r) (DtAll.fr f rs)
end
mutual
theorem Dt.less {a b : Out} {H : Hp} (l : ∀ p, b p → a p) : ∀ {v : V} {d : PyData}, Dt a H v d → Dt b H v d
  | _, _, .non => .non
  | _, _, .bl x => .bl x
  | _, _, .int i => .int i
  | _, _, .str x => .str x
  | _, _, .lst n h r => .lst (fun z => n (l _ z)) h (DtAll.less l r)
  | _, _, .tup n h r => .tup (fun z => n (l _ z)) h (DtAll.less l r)
  | _, _, .dic n h r => .dic (fun z => n (l _ z)) h (DtAll.less l r)
theorem DtAll.less {a b : Out} {H : Hp} (l : ∀ p, b p → a p) : ∀ {vs : List V} {ds : List PyData}, DtAll a H vs ds → DtAll b H vs ds
  | _, _, .nil => .nil
  | _, _, .cons r rs => .cons (Dt.less l r) (DtAll.less l rs)
end
theorem DtAll.len {a : Out} {H : Hp} : ∀ {vs : List V} {ds : List PyData}, DtAll a H vs ds → vs.length = ds.length
  | _, _, .nil => rfl
  | _, _, .cons _ rs => congrArg (· + 1) (DtAll.len rs)
theorem DtAll.get {a : Out} {H : Hp} : ∀ {vs : List V} {ds : List PyData} {i : Nat} {v : V}, DtAll a H vs ds → vs[i]? = some v → ∃ d, ds[i]? = some d ∧ Dt a H v d
  | _, _, _, _, .nil, e => by simp at e
  | _, _, 0, _, .cons r _, e => by simp at e; subst e; exact ⟨_, rfl, r⟩
  | _, _, i + 1, _, .cons _ rs, e => by
    obtain ⟨d, h1, h2⟩ := DtAll.get rs (by simpa using e)
    exact ⟨d, by simpa using h1, h2⟩
theorem DtAll.append {a : Out} {H : Hp} : ∀ {vs us : List V} {ds es : List PyData}, DtAll a H vs ds → DtAll a H us es → DtAll a H (vs ++ us) (ds ++ es)
  | _, _, _, _, .nil, h => h
  | _, _, _, _, .cons r rs, h => .cons r (DtAll.append rs h)
theorem DtAll.cut {a : Out} {H : Hp} : ∀ {vs : List V} {ds : List PyData} (n : Nat), DtAll a H vs ds → DtAll a H (vs.take n) (ds.take n) ∧ DtAll a H (vs.drop n) (ds.drop n)
  | _, _, 0, h => ⟨by simp only [List.take_zero]; exact .nil, h⟩
  | _, _, n + 1, .nil => ⟨by simp only [List.take_nil]; exact .nil, by simp only [List.drop_nil]; exact .nil⟩
  | _, _, n + 1, .cons r rs => ⟨by simp only [List.take_succ_cons]; exact .cons r (DtAll.cut n rs).1, by simp only [List.drop_succ_cons]; exact (DtAll.cut n rs).2⟩
/-! ### what stands in memory -/
section
variable {X : Cx} {pins : List (Addr × Obj)} {σ : L2.St} {H : Hp} {s : Shared}
theorem tracked_not_sys (hS : ∃ o, X.base.get? sysModules = some o) (I : Inv X pins σ H s) {b : Addr} {o : HO} (h : H b = some o) : b ≠ sysModules := fun e => by
  obtain ⟨ob, q⟩ := hS
  have := (I.bs _ _ q).2
  rw [← e, h] at this
  cases this
theorem not_app {c : Addr} {as bs : List Addr} (h1 : c ∉ as) (h2 : c ∉ bs) : c ∉ as ++ bs := fun z => (List.mem_append.mp z).elim h1 h2
theorem keys_read {P : Program} {w : World} {h : Heap} : ∀ {kvs : List (Key × V)} {us : List (Key × Value)} {es : List DictEntry}, KV kvs us → PySem.Pairs (mixKind P w) es us →
    ReadsAll h (es.map (·.key)) (kvs.map fun q => keyD q.1) [] ∧ Vals (kvs.map (·.2)) (es.map (·.val))
  | _, _, _, .nil, .nil => ⟨.nil, .nil⟩
  | (k, v) :: _, (k', v') :: _, e :: _, .cons ⟨e1, e2⟩ r, .cons h1 h2 r' => by
    dsimp only at e1 e2 h1 h2
    subst e1
    obtain ⟨q1, q2⟩ := keys_read r r'
    refine ⟨ReadsAll.cons (as := []) ?_ q1, .cons (show L2.RelV v e.val by rw [h2]; exact e2) q2⟩
    have z : keyIs k e.key = true := h1
    cases k with
    | inl i =>
      obtain ⟨t, y⟩ : ∃ t, e.key = .int i t := by
        have z' : Value.isInt i e.key = true := z
        unfold Value.isInt at z'
        split at z' <;> simp_all
      show Reads h e.key (.int i) []
      rw [y]
      exact Reads.int i t
    | inr x =>
      obtain ⟨t, y⟩ : ∃ t, e.key = .str x t := by
        have z' : Value.isStrOf x e.key = true := z
        unfold Value.isStrOf at z'
        split at z' <;> simp_all
      show Reads h e.key (.str x) []
      rw [y]
      exact Reads.str x t
mutual
theorem Dt.reads (hS : ∃ o, X.base.get? sysModules = some o) (I : Inv X pins σ H s) {a : Out} : ∀ {v : V} {d : PyData} {u : Value}, Dt a H v d → L2.RelV v u → ∃ as, Reads s.heap u d as ∧ sysModules ∉ as
  | _, _, _, .non, r => by
    cases r
    exact ⟨[], Reads.none, by simp⟩
  | _, _, _, .bl b, r => by
    cases r
    exact ⟨[], Reads.bool b, by simp⟩
  | _, _, _, .int i, r => by
    obtain ⟨t, rfl⟩ := r
    exact ⟨[], Reads.int i t, by simp⟩
  | _, _, _, .str x, r => by
    obtain ⟨t, rfl⟩ := r
    exact ⟨[], Reads.str x t, by simp⟩
  | _, _, _, .lst (p := p) n h rs, r => by
    cases r
    obtain ⟨_, its, nn, rv, ho⟩ := I.hok _ _ h
    obtain ⟨as, hr, hn⟩ := DtAll.reads hS I rs rv
    exact ⟨_, Reads.list ho rfl rfl hr, fun z => (List.mem_cons.mp z).elim (fun z => tracked_not_sys hS I h z.symm) hn⟩
  | _, _, _, .tup n h rs, r => by
    cases r
    obtain ⟨_, its, rv, o, ho, hc, nn, hd⟩ := I.hok _ _ h
    obtain ⟨as, hr, hn⟩ := DtAll.reads hS I rs rv
    exact ⟨_, Reads.tuple ho hc hd hr, hn⟩
  | _, _, _, .dic (p := p) (kvs := kvs) (ds := ds) n h rs, r => by
    cases r
    obtain ⟨_, _, us, hkv, o, es, ep, ho, hx, hd, _, hp, _⟩ := I.hok _ _ h
    obtain ⟨q1, q2⟩ := keys_read (h := s.heap) hkv hp
    obtain ⟨as, hr, hn⟩ := DtAll.reads hS I rs q2
    have hl : (kvs.map fun q => keyD q.1).length = ds.length := by rw [← DtAll.len rs, List.length_map, List.length_map]
    refine ⟨_, Reads.dict ho hx.1 hd (by rw [List.map_fst_zip (by omega)]; exact q1) (by rw [List.map_snd_zip (by omega)]; exact hr), fun z => ?_⟩
    rcases List.mem_append.mp z with z | z
    · rcases List.mem_cons.mp z with z | z
      · exact tracked_not_sys hS I h z.symm
      · cases z
    · exact hn z
theorem DtAll.reads (hS : ∃ o, X.base.get? sysModules = some o) (I : Inv X pins σ H s) {a : Out} : ∀ {vs : List V} {ds : List PyData} {us : List Value}, DtAll a H vs ds → Vals vs us → ∃ as, ReadsAll s.heap us ds as ∧ sysModules ∉ as
  | _, _, _, .nil, .nil => ⟨[], .nil, by simp⟩
  | _, _, _, .cons h hs, .cons r rs => by
    obtain ⟨as, q1, n1⟩ := Dt.reads hS I h r
    obtain ⟨bs, q2, n2⟩ := DtAll.reads hS I hs rs
    exact ⟨_, .cons q1 q2, not_app n1 n2⟩
end
end
/-! ### repr -/
/-- short data: its text fits -/
structure Fine (n k : Nat) (d : PyData) : Prop where
  sh : d.showable = true
  lv : d.leavesShort 40 = true
  bk : d.bulk ≤ n
  dp : d.depth ≤ k
theorem Fine.fits {n k : Nat} {d : PyData} (f : Fine n k d) (h : n ≤ 390000) : d.shown.length ≤ sizeLine := by
  have e := PyData.shown_le_bulk 40 (by decide) d f.lv
  have h2 : 42 * d.bulk ≤ 42 * 390000 := Nat.mul_le_mul_left _ (Nat.le_trans f.bk h)
  rw [sizeLine_eq]
  omega
def rRep : List V → Hp → VK → Prop := fun xs H Q => ∃ (a : Out) (p : Addr) (d : PyData), xs = [.ref p] ∧ Dt a H (.ref p) d ∧ Fine 390000 60 d ∧ Q (.str d.shown) H
theorem call_rep {X : Cx} (hS : ∃ o, X.base.get? sysModules = some o) (hg : X.A.guards = some []) (hu : X.A.units + 64 < cLine) : CallR X (.builtin "repr") rRep := by
  intro pins s σ H xs us Q I rv h
  obtain ⟨a, p, d, rfl, hd, hf, q⟩ := h
  cases rv with
  | cons r rs =>
    cases rs
    cases r
    obtain ⟨as, hr, hn⟩ := Dt.reads hS I hd rfl
    have := hf.dp
    exact repr_of_reads' hr hf.sh (fun _ => hn) hg (by omega) (fun _ _ e => e) (fun h' u tk hk => ⟨.str d.shown, H, I.kept (t' := tk) hk, ⟨u, rfl⟩, q⟩) (hf.fits (Nat.le_refl _))
end Xci

namespace Xci
open PySem PySem.Spec PyProof.Rows L2
/-! C(..) whose __init__ may raise, told at the caller's slots -/
def tMakeS (C : Addr) (sp : Sp) (E : L2.St → XK) (t : TA) : TE := fun σ H Q => t σ H fun vs H1 => ∀ x dx, H1 x = none → H1 dx = none → dx ≠ x → sp (.ref x :: vs) (upd (upd H1 dx (.own x)) x (.ins C dx [])) (fun v H2 => v = .non ∧ Q (.ref x) H2) (E σ)
section
variable {X : Cx} {CX : CXT} {k : Nat} {f C : Addr} {fd : FuncData} {ps : List Str} {sp : Sp} {E : L2.St → XK} {x : Str} {p pos : Pos} {e : Expr} {es : List Expr} {t : TA}
theorem pe_makeS (M : L2.Mk X.K C f) (F : FnOk X.prog X.w X.K X.mg X.base CX k f fd ps sp) (hr : Room (k + 1) X.A) (hg : Gl X x) (hm : X.mg x = some (.ref C)) (hb : Binds X.K fd ps []) (hx : ∀ σ, PassesAt CX X σ (E σ)) (ha : PA X (e :: es) t)
    (hdb : (x == ("__debug__" : Str)) = false := by decide) (he : starEach (e :: es) X.env = (false, eval e X.env) :: starEach es X.env := by rfl) (hpl : (backTo pos (starEach es X.env)).any (·.1) = false := by rfl) :
    PE X (.Call (.Name x p) (e :: es) [] pos) (tMakeS C sp E t) := by
  refine ⟨fun pins s σ H Q I h => wpAny_Call_Name_kw (ld_glob I hg hm (PySem.W.callWith_K (h₀ := X.base) I.ok.mod.kin M.kp (thn (ha.run pos pins s σ H _ I h) fun us s1 ⟨vs, H1, I1, r, q⟩ => ⟨I1.kIn, ?_⟩) he hpl) hdb)⟩
  show wpAny _ _ (call (.ref C) us) _ _ _
  have new1 : H1 (s1.heap.objs.size + 1) = none := I1.hok.fresh (Nat.le_succ _)
  have new0 : H1 s1.heap.objs.size = none := I1.hok.fresh (Nat.le_refl _)
  have told := q _ _ new1 new0 (Nat.ne_of_lt (Nat.lt_succ_self _))
  have J := Inv.made (C := C) I1
  have rv : Vals (V.ref (s1.heap.objs.size + 1) :: vs) (Value.ref (s1.heap.objs.size + 1) :: us) := .cons rfl r
  have ar : (Value.ref (s1.heap.objs.size + 1) :: us).length = ps.length := by rw [← rv.length]; exact F.len _ _ _ _ told
  have bnd := hb _ (Value.ref (s1.heap.objs.size + 1) :: us) J.kIn (by rw [List.append_nil]; exact ar)
  rw [List.append_nil] at bnd
  refine wpAny_call (make_map (f := f) I1.kIn M.makes M.init (beq_iff_eq.mp M.fn) (codeAny_mono (F.run _ X.stack _ _ ⟨Value.ref (s1.heap.objs.size + 1) :: us, []⟩ _ _ _ (E σ) (hr.make C us []) (J.env0.make C us []) bnd rv told) fun r' s' z => ?_))
  match r', z with
  | .error er, z => exact hx σ pins _ _ er s' J z
  | .ok (.ret u), z =>
    obtain ⟨v, H', J', rv', ev, y⟩ := J.after z
    subst ev
    exact ⟨rv', V.ref (s1.heap.objs.size + 1), H', J', rfl, y⟩
  | .ok .next, z => exact False.elim z
  | .ok .brk, z => exact False.elim z
  | .ok .cont, z => exact False.elim z
end
/-! an error class of the program, as those who raise it see it -/
structure ErrC (P : Program) (w : World) (K : PySem.W.Frag) (mg : Str → Option Value) (base : Heap) (nm : Str) (C : Addr) (ps : List Str) (sp : Sp) : Prop where
  ex : ∃ (fI : Addr) (fd : FuncData), PySem.W.findIn K (.ref C) "__init__" = some (some (.ref fI)) ∧ PySem.W.typeIn K (.ref fI) = some (.type "function") ∧ FnOk P w K mg base CX0 1 fI fd ps sp ∧ Binds K fd ps []
  ox : OexC K C
  at_ : mg nm = some (.ref C)
section
variable {X : Cx} {C : Addr} {nm f g : Str} {e : Expr} {es : List Expr} {ta : TA} {p pos : Pos}
theorem pmk_e0 (H : ErrC X.prog X.w X.K X.mg X.base nm C ["self"] (spX0 C)) (hr : Room 2 X.A) (hg : Gl X nm) (hdb : (nm == ("__debug__" : Str)) = false := by decide) : PMk X (.Call (.Name nm p) [] [] pos) (fun _ H Q => Q (.ref C) none H) := by
  obtain ⟨fI, fd, h1, h2, F1, hb⟩ := H.ex
  exact pmk_x0 H.ox h1 h2 F1 hr hb pass0 hg H.at_ hdb
/-- C(e, ..): an error with fields -/
theorem pmk_en {ps : List Str} {sp : Sp} (H : ErrC X.prog X.w X.K X.mg X.base nm C ps sp) (hr : Room 2 X.A) (hg : Gl X nm) (ha : PA X (e :: es) ta) (hdb : (nm == ("__debug__" : Str)) = false := by decide)
    (hs : starEach (e :: es) X.env = (false, eval e X.env) :: starEach es X.env := by rfl) (hpl : (backTo pos (starEach es X.env)).any (·.1) = false := by rfl) :
    PMk X (.Call (.Name nm p) (e :: es) [] pos) (tMkO C sp [] ta) := by
  obtain ⟨fI, fd, h1, h2, F1, hb⟩ := H.ex
  exact pmk_oex H.ox h1 h2 F1 hr hb (dvs := []) .nil pass0 hg H.at_ ha hdb hs hpl
/-- .. what it asks, of one field -/
theorem x1_read {H1 : Hp} {v : V} {Q : XK} (q : ∀ d H2, H2 d = some (.xd [(f, v)]) → H1 d = none → Same H1 H2 → Q (.ref C) (some d) H2) :
    ([v] : List V).length ≤ 1000 ∧ ∀ a, H1 a = none → spX1 C f (.ref a :: ([v] ++ [])) (upd H1 a (exo a C none))
      (fun v H2 => v = .non ∧ ∃ (d : Addr) (fs : List (Str × V)), H2 a = some (exo a C (some d)) ∧ H2 d = some (exd d fs) ∧ H1 d = none ∧ Q (.ref C) (some d) (upd (L2.del H2 a) d (.xd fs))) (fun _ _ _ => False) := by
  refine ⟨by show 1 ≤ 1000; decide, fun a na => ⟨a, v, rfl, upd_same, fun dx nd ne => ⟨rfl, dx, [(f, v)], upd_same, ?_, ?_, ?_⟩⟩⟩
  · rw [upd_ne ne, upd_same]
  · rwa [upd_ne ne] at nd
  · rw [upd_ne ne] at nd
    refine q dx _ upd_same nd fun b o h => ?_
    have ba := ne_of_none h na
    have bd := ne_of_none h nd
    rw [upd_ne bd, del_ne ba, upd_ne ba, upd_ne bd, upd_ne ba]
    exact h
end
/-! classes and defs of the program that may raise, as their callers see them -/
structure HasX (P : Program) (w : World) (K : PySem.W.Frag) (mg : Str → Option Value) (base : Heap) (nm : Str) (C : Addr) (ps : List Str) (k : Nat) (sp : Sp) : Prop where
  ex : ∃ (f : Addr) (fd : FuncData), L2.Mk K C f ∧ FnOk P w K mg base (L2.CX P w) k f fd ps sp ∧ Binds K fd ps []
  at_ : mg nm = some (.ref C)
structure HasR (P : Program) (w : World) (K : PySem.W.Frag) (mg : Str → Option Value) (base : Heap) (nm : Str) (ps : List Str) (k : Nat) (sp : Sp) : Prop where
  ex : ∃ (f : Addr) (fd : FuncData), FnOk P w K mg base (L2.CX P w) k f fd ps sp ∧ mg nm = some (.ref f) ∧ PySem.W.keepIn K (.ref f) = true ∧ Binds K fd ps []
section
variable {X : Cx} {W : WX} {C : Addr} {k : Nat} {nm : Str} {ps : List Str} {sp : Sp} {e : Expr} {es : List Expr} {t : TA} {p pos : Pos}
theorem pe_makeX (h : HasX X.prog X.w X.K X.mg X.base nm C ps k sp) (hr : Room (k + 1) X.A) (hg : Gl X nm) (tk : Takes X W) (ha : PA X (e :: es) t) (hdb : (nm == ("__debug__" : Str)) = false := by decide)
    (he : starEach (e :: es) X.env = (false, eval e X.env) :: starEach es X.env := by rfl) (hpl : (backTo pos (starEach es X.env)).any (·.1) = false := by rfl) : PE X (.Call (.Name nm p) (e :: es) [] pos) (tMakeS C sp (WE W) t) := by
  obtain ⟨f, fd, M, F, b⟩ := h.ex
  exact pe_makeS M F hr hg h.at_ b (fun σ => passAt tk σ) ha hdb he hpl
theorem pe_callX (h : HasR X.prog X.w X.K X.mg X.base nm ps k sp) (hr : Room k X.A) (hg : Gl X nm) (tk : Takes X W) (ha : PA X (e :: es) t) (hdb : (nm == ("__debug__" : Str)) = false := by decide)
    (he : starEach (e :: es) X.env = (false, eval e X.env) :: starEach es X.env := by rfl) (hpl : (backTo pos (starEach es X.env)).any (·.1) = false := by rfl) : PE X (.Call (.Name nm p) (e :: es) [] pos) (tCallS sp (WE W) t) := by
  obtain ⟨f, fd, F, g, kp, b⟩ := h.ex
  exact pe_callS F hr hg g kp b (fun σ => passAt tk σ) ha hdb he hpl
end
/-- what an except clause needs of the class that it names and of the one that flies -/
structure Catch (K : PySem.W.Frag) (mg : Str → Option Value) (nm : Str) (D : Addr) : Prop where
  at_ : mg nm = some (.ref D)
  ex : PySem.W.subIn K (.ref D) (.type "BaseException") = some true
  is : PySem.W.isClsIn K D = true
  ty : PySem.W.typeIn K (.ref D) = some (.type "type")
theorem Catch.one {K : PySem.W.Frag} {mg : Str → Option Value} {nm : Str} {C D : Addr} {b : Bool} (c : Catch K mg nm D) (h : PySem.W.subIn K (.ref C) (.ref D) = some b) : PySem.W.exmOne K (.ref C) (.ref D) = some b := by
  have e1 : (PySem.W.subIn K (.ref D) (.type "BaseException") == some true) = true := by rw [c.ex] <;> rfl
  have e2 : ((PySem.W.clsIn K D).isSome && PySem.W.typeIn K (.ref D) == some (.type "type")) = true := by
    rw [show (PySem.W.clsIn K D).isSome = true from c.is, c.ty] <;> rfl
  unfold PySem.W.exmOne
  rw [if_pos e1]
  show (if _ then _ else _) = _
  rw [if_pos e2]
  exact h
/-! what isinstance says of data -/
def tyD : PyData → String
  | .none => "NoneType"
  | .bool _ => "bool"
  | .int _ => "int"
  | .str _ => "str"
  | .list _ => "list"
  | .tuple _ => "tuple"
  | .dict _ => "dict"
def isaT (T t : String) : Bool := t == T || (T == "int" && t == "bool")
def isaD (T : String) (d : PyData) : Bool := isaT T (tyD d)
theorem dt_ty {K : PySem.W.Frag} {a : Out} {H : Hp} {v : V} {d : PyData} (h : Dt a H v d) : TyX K H v (.type (tyD d)) := by
  cases h with
  | non => exact .base .non
  | bl b => exact .base (.bl b)
  | int i => exact .base (.int i)
  | str x => exact .base (.str x)
  | lst _ h _ => exact .base (.lst h)
  | tup _ h _ => exact .base (.tup h)
  | dic _ h _ => exact .base (.dK h)
theorem kit_D {K : PySem.W.Frag} (d : PyData) {T : String} (hT : T = "int" ∨ T = "bool" ∨ T = "str" ∨ T = "list" ∨ T = "tuple" ∨ T = "dict") : PySem.W.kitOne K (.type (tyD d)) (.type T) = some (isaD T d) := by
  rcases hT with rfl | rfl | rfl | rfl | rfl | rfl <;> cases d <;> (simp only [isaD, tyD]; exact kit_ty (by decide +kernel))
theorem isi_D {K : PySem.W.Frag} {a : Out} {H : Hp} {v : V} {d : PyData} {T : String} {Q : VK} (h : Dt a H v d) (q : Q (.bl (isaD T d)) H) (hT : T = "int" ∨ T = "bool" ∨ T = "str" ∨ T = "list" ∨ T = "tuple" ∨ T = "dict" := by simp) :
    rIsi K [v, .ty T] H Q := ⟨v, .ty T, _, _, _, rfl, .ty T, dt_ty h, kit_D d hT, q⟩
end Xci

namespace Xci
open PySem PySem.Spec PyProof.Rows L2
/-! what the program's judges say of any data -/
def intD : PyData → Bool
  | .int _ => true
  | _ => false
theorem intD_isa (d : PyData) : (isaD "int" d && !isaD "bool" d) = intD d := by cases d <;> (simp only [isaD, tyD, intD]; decide +kernel)
def btwD (lo hi : Int) : PyData → Bool
  | .int x => decide (lo ≤ x ∧ x ≤ hi)
  | _ => false
def cellFrom (n : Int) : Int → List PyData → Bool
  | _, [] => true
  | lo, .int x :: r => decide (lo ≤ x ∧ x ≤ n - 1) && cellFrom n (x + 1) r
  | _, _ :: _ => false
def cellD (n : Int) : PyData → Bool
  | .tuple ds => cellFrom n 0 ds
  | _ => false
def marksD : PyData → List Int
  | .tuple ds => ds.filterMap fun d => match d with
    | .int x => some x
    | _ => none
  | _ => []
def cellsD (n : Int) : PyData → Bool
  | .tuple ds => decide (1 ≤ ds.length ∧ ds.length ≤ 24) && (ds.all (cellD n) && decide (ds.map marksD).Nodup)
  | _ => false
def spIntD : Sp := fun vs H Q _ => ∃ (a : Out) (v : V) (d : PyData), vs = [v] ∧ Dt a H v d ∧ Q (.bl (intD d)) H
def spBtwD : Sp := fun vs H Q _ => ∃ (a : Out) (lo hi : Int) (v : V) (d : PyData), vs = [.int lo, .int hi, v] ∧ Dt a H v d ∧ Q (.bl (btwD lo hi d)) H
def spCellD : Sp := fun vs H Q _ => ∃ (a : Out) (n : Int) (v : V) (d : PyData), vs = [.int n, v] ∧ Dt a H v d ∧ Q (.bl (cellD n d)) H
def spCellsD : Sp := fun vs H Q _ => ∃ (a : Out) (n : Int) (v : V) (d : PyData), vs = [.int n, v] ∧ Dt a H v d ∧ Q (.bl (cellsD n d)) H
theorem isa_tup (d : PyData) : isaD "tuple" d = true ↔ ∃ ds, d = .tuple ds := by
  cases d <;> simp [isaD, isaT, tyD]
theorem isa_tup_not {d : PyData} (h : isaD "tuple" d ≠ true) : (∀ n, cellD n d = false) ∧ ∀ n, cellsD n d = false := by
  cases d <;> first | exact ⟨fun _ => rfl, fun _ => rfl⟩ | exact absurd ((isa_tup _).mpr ⟨_, rfl⟩) h
/-- a right cell is the tuple of its marks -/
theorem cellFrom_spec {n : Int} : ∀ {lo : Int} {ds : List PyData}, cellFrom n lo ds = true → ∃ ms : List Int, ds = ms.map .int ∧ ms.Pairwise (· < ·) ∧ (∀ m ∈ ms, lo ≤ m) ∧ ∀ m ∈ ms, m < n
  | _, [], _ => ⟨[], rfl, .nil, by simp, by simp⟩
  | lo, .int x :: r, h => by
    simp only [cellFrom, Bool.and_eq_true, decide_eq_true_eq] at h
    obtain ⟨⟨h1, h2⟩, h3⟩ := h
    obtain ⟨ms, rfl, up, lo', hi⟩ := cellFrom_spec h3
    refine ⟨x :: ms, rfl, List.pairwise_cons.mpr ⟨fun m hm => by have := lo' m hm; omega, up⟩, fun m hm => ?_, fun m hm => ?_⟩
    · rcases List.mem_cons.mp hm with rfl | hm
      · exact h1
      · have := lo' m hm; omega
    · rcases List.mem_cons.mp hm with rfl | hm
      · omega
      · exact hi m hm
  | _, .none :: _, h => by simp [cellFrom] at h
  | _, .bool _ :: _, h => by simp [cellFrom] at h
  | _, .str _ :: _, h => by simp [cellFrom] at h
  | _, .list _ :: _, h => by simp [cellFrom] at h
  | _, .tuple _ :: _, h => by simp [cellFrom] at h
  | _, .dict _ :: _, h => by simp [cellFrom] at h
theorem cellD_spec {n : Int} {d : PyData} (h : cellD n d = true) : ∃ ms : List Int, d = .tuple (ms.map .int) ∧ MarksOk n ms ∧ marksD d = ms := by
  cases d with
  | tuple ds =>
    obtain ⟨ms, rfl, up, lo, hi⟩ := cellFrom_spec h
    refine ⟨ms, rfl, ⟨up, lo, hi⟩, ?_⟩
    show (ms.map PyData.int).filterMap _ = ms
    rw [List.filterMap_map]
    exact List.filterMap_some
  | _ => cases h
theorem cellFrom_of {n : Int} : ∀ {lo : Int} {ms : List Int}, ms.Pairwise (· < ·) → (∀ m ∈ ms, lo ≤ m) → (∀ m ∈ ms, m < n) → cellFrom n lo (ms.map .int) = true
  | _, [], _, _, _ => rfl
  | lo, m :: r, up, h1, h2 => by
    obtain ⟨u1, u2⟩ := List.pairwise_cons.mp up
    have a1 := h1 m (List.mem_cons_self ..)
    have a2 := h2 m (List.mem_cons_self ..)
    simp only [List.map_cons, cellFrom, Bool.and_eq_true, decide_eq_true_eq]
    exact ⟨⟨a1, by omega⟩, cellFrom_of u2 (fun k hk => by have := u1 k hk; omega) fun k hk => h2 k (List.mem_cons_of_mem _ hk)⟩
theorem dt_tup {a : Out} {H : Hp} {v : V} {ds : List PyData} (h : Dt a H v (.tuple ds)) : ∃ p xs, v = .ref p ∧ ¬ a p ∧ H p = some (.tup xs) ∧ DtAll a H xs ds := by
  cases h with
  | tup n h r => exact ⟨_, _, rfl, n, h, r⟩
theorem dt_ints {a : Out} {H : Hp} : ∀ {ms : List Int} {xs : List V}, DtAll a H xs (ms.map .int) → xs = ms.map V.int
  | [], _, .nil => rfl
  | m :: r, _, .cons h rs => by
    cases h
    rw [dt_ints rs]
    rfl
theorem dt_cell {a : Out} {H : Hp} {v : V} {n : Int} {d : PyData} (h : Dt a H v d) (c : cellD n d = true) : ∃ ms, MarksOk n ms ∧ marksD d = ms ∧ Xci.Mk H v ms := by
  obtain ⟨ms, rfl, ok, e⟩ := cellD_spec c
  obtain ⟨p, xs, rfl, _, hp, r⟩ := dt_tup h
  rw [dt_ints r] at hp
  exact ⟨ms, ok, e, p, rfl, hp⟩
theorem dt_cells {a : Out} {H : Hp} {n : Int} : ∀ {xs : List V} {ds : List PyData}, DtAll a H xs ds → ds.all (cellD n) = true → Mks H xs (ds.map marksD) ∧ ∀ c ∈ ds.map marksD, MarksOk n c
  | _, _, .nil, _ => ⟨.nil, fun _ h => nomatch h⟩
  | _, _, .cons h rs, c => by
    simp only [List.all_cons, Bool.and_eq_true] at c
    obtain ⟨ms, ok, e, m⟩ := dt_cell h c.1
    obtain ⟨q1, q2⟩ := dt_cells rs c.2
    refine ⟨.cons (by rw [e]; exact m) q1, fun k hk => ?_⟩
    rcases List.mem_cons.mp hk with rfl | hk
    · rw [e]; exact ok
    · exact q2 k hk
theorem all_at {α : Type} {p : α → Bool} {xs : List α} {i : Nat} {x : α} (h : xs[i]? = some x) (hp : p x = false) : xs.all p = false := by
  rw [Bool.eq_false_iff]
  intro z
  have := List.all_eq_true.mp z x (List.mem_of_getElem? h)
  rw [hp] at this
  cases this
end Xci

namespace Xci
open PySem PySem.Spec PyProof.Rows L2
/-! a cell in a tuple of cells -/
def mkD (ms : List Int) : PyData := .tuple (ms.map .int)
theorem dpAll_ints {K : PySem.W.Frag} {H : Hp} : ∀ ms : List Int, DpAll K H (ms.map V.int) (ms.map PyData.int)
  | [] => .nil
  | m :: r => .cons (.int m) (dpAll_ints r)
theorem dp_mk {K : PySem.W.Frag} {H : Hp} {v : V} {ms : List Int} (h : Xci.Mk H v ms) : Dp K H v (mkD ms) := by
  obtain ⟨p, rfl, hp⟩ := h
  exact .tup (sqT hp) (dpAll_ints ms)
theorem dpAll_mks {K : PySem.W.Frag} {H : Hp} : ∀ {ys : List V} {cs : List (List Int)}, Mks H ys cs → DpAll K H ys (cs.map mkD)
  | _, _, .nil => .nil
  | _, _, .cons h t => .cons (dp_mk h) (dpAll_mks t)
theorem lay_mk (ms : List Int) : PyData.canLay0 (mkD ms) = true := by
  unfold mkD
  simp only [PyData.canLay0]
  exact (lay_ints ms).1
theorem lay_mks : ∀ cs : List (List Int), PyData.canLayAll0 (cs.map mkD) = true
  | [] => by simp [PyData.canLayAll0]
  | c :: r => by
    simp only [List.map_cons, PyData.canLayAll0, lay_mk c, lay_mks r, Bool.and_self]
theorem deep_mk (ms : List Int) : PyData.depth (mkD ms) = 1 := by
  unfold mkD
  simp only [PyData.depth, (lay_ints ms).2]
theorem any_mk (ms : List Int) : ∀ cs : List (List Int), ((cs.map mkD).any fun z => PyData.eqv z (mkD ms)) = decide (ms ∈ cs)
  | [] => rfl
  | c :: r => by
    have e : PyData.eqv (mkD c) (mkD ms) = decide (c = ms) := by
      unfold mkD
      simp only [PyData.eqv]
      exact eqvAll_ints c ms
    rw [List.map_cons, List.any_cons, any_mk ms r, e, Bool.eq_iff_iff]
    simp only [Bool.or_eq_true, decide_eq_true_eq, List.mem_cons]
    constructor
    · rintro (h | h)
      · exact .inl h.symm
      · exact .inr h
    · rintro (h | h)
      · exact .inl h.symm
      · exact .inr h
def rInMk (K : PySem.W.Frag) : R2 := fun x y H Q => ∃ (p : Addr) (ys : List V) (cs : List (List Int)) (ms : List Int), Xci.Mk H x ms ∧ y = .ref p ∧ SqT K H p ys ∧ Mks H ys cs ∧ Q (.bl (decide (ms ∈ cs))) H
theorem op_inMk {X : Cx} (hu : X.A.units + 64 < cLine) : OpR X (compareOp .In) (rInMk X.K) := by
  intro pins s σ H x y v u Q I rx ry h
  obtain ⟨p, ys, cs, ms, hm, rfl, hs, hcs, q⟩ := h
  obtain ⟨as, r1⟩ := Dp.reads I _ x v (dp_mk hm) rx
  obtain ⟨bs, r2⟩ := Dp.reads I (.tuple (cs.map mkD)) _ u (.tup hs (dpAll_mks hcs)) ry
  refine SeqAt.in_tuple_reads r2 r1 (lay_mks cs) (lay_mk ms) (by rw [deep_mk]; have : min (PyData.depthAll (cs.map mkD)) 1 ≤ 1 := Nat.min_le_right _ _; omega) ?_
  rw [any_mk]
  exact ⟨.bl _, H, I, rfl, q⟩
end Xci

namespace Xci
open PySem L2
/-! ### tables that a plain book makes: a law's own walk, over tuples of marks -/
/-- the cells of a form -/
def cellsOf (rows : List (List Int × Str)) (z : Str) : List (List Int) := (rows.filter fun r => decide (r.2 = z)).map (·.1)
theorem cellsOf_mem {rows : List (List Int × Str)} {z : Str} {c : List Int} : c ∈ cellsOf rows z ↔ (c, z) ∈ rows := by
  unfold cellsOf
  rw [List.mem_map]
  constructor
  · rintro ⟨r, hr, rfl⟩
    obtain ⟨h1, h2⟩ := List.mem_filter.mp hr
    have := of_decide_eq_true h2
    subst this
    exact h1
  · intro h
    exact ⟨(c, z), List.mem_filter.mpr ⟨h, decide_eq_true rfl⟩, rfl⟩
theorem cellsOf_snoc (rows : List (List Int × Str)) (c : List Int) (z y : Str) : cellsOf (rows ++ [(c, z)]) y = cellsOf rows y ++ (if z = y then [c] else []) := by
  unfold cellsOf
  rw [List.filter_append, List.map_append, List.filter_cons, List.filter_nil]
  by_cases e : z = y
  · rw [if_pos (decide_eq_true e), if_pos e]; rfl
  · rw [if_neg (by rw [decide_eq_false e]; exact Bool.false_ne_true), if_neg e]; rfl
theorem cellsOf_len (rows : List (List Int × Str)) (z : Str) : (cellsOf rows z).length ≤ rows.length := by
  unfold cellsOf
  rw [List.length_map]
  exact List.length_filter_le _ _
theorem shared0_cells {rows : List (List Int × Str)} {z : Str} {m : Int} : Shared0 rows z m ↔ ∀ c ∈ cellsOf rows z, m ∈ c := by
  constructor
  · intro h c hc
    exact h (c, z) (cellsOf_mem.mp hc) rfl
  · rintro h r hr rfl
    exact h r.1 (cellsOf_mem.mpr hr)
abbrev refV (g : Str → Addr) (z : Str) : V := .ref (g z)
/-- the dict from the forms to the lists of their cells -/
structure Groups (H : Hp) (d : Addr) (rows : List (List Int × Str)) (F : List Str) (g : Str → Addr) : Prop where
  at_ : H d = some (.dK (dkOf F (refV g)))
  names : Names rows F
  each : ∀ z ∈ F, ∃ ys : List V, H (g z) = some (.lst ys) ∧ Mks H ys (cellsOf rows z)
theorem Groups.same {H H' : Hp} {d : Addr} {rows : List (List Int × Str)} {F : List Str} {g : Str → Addr} (h : Groups H d rows F g) (s : Same H H') : Groups H' d rows F g :=
  ⟨s _ _ h.at_, h.names, fun z hz => let ⟨ys, e, m⟩ := h.each z hz; ⟨ys, s _ _ e, m.keep (TFr.same s)⟩⟩
/-- the dict from the forms to the marks that they have left -/
structure HeldAt (H : Hp) (d : Addr) (F : List Str) (ms : Str → List Int) (g : Str → Addr) : Prop where
  at_ : H d = some (.dK (dkOf F (refV g)))
  each : ∀ z ∈ F, H (g z) = some (.tup ((ms z).map V.int))
def spLawCommon : Sp := fun vs H Q _ => ∃ (l : Addr) (ys : List V) (cs : List (List Int)), vs = [.ref l] ∧ H l = some (.lst ys) ∧ Mks H ys cs ∧ cs ≠ [] ∧ (∀ c ∈ cs, MarksOk 6 c) ∧ cs.length ≤ 64 ∧
  ∀ (p : Addr) (ms : List Int) (H' : Hp), H' p = some (.tup (ms.map V.int)) → MarksOk 6 ms → (∀ m, m ∈ ms ↔ ∀ c ∈ cs, m ∈ c) → Same H H' → Q (.ref p) H'
/-- cells and forms, in tuples -/
structure CfAt (H : Hp) (pc pf : Addr) (cy : List V) (cells : List (List Int)) (fs : List (Option Str)) : Prop where
  c : H pc = some (.tup cy)
  m : Mks H cy cells
  f : H pf = some (.tup (fs.map formV))
  len : cells.length = fs.length
  ok : ∀ c ∈ cells, MarksOk 6 c
  few : cells.length ≤ 63
theorem CfAt.same {H H' : Hp} {pc pf : Addr} {cy : List V} {cells : List (List Int)} {fs : List (Option Str)} (h : CfAt H pc pf cy cells fs) (s : Same H H') : CfAt H' pc pf cy cells fs := ⟨s _ _ h.c, h.m.keep (TFr.same s), s _ _ h.f, h.len, h.ok, h.few⟩
def spLawGroups : Sp := fun vs H Q _ => ∃ (pc pf : Addr) (cy : List V) (cells : List (List Int)) (fs : List (Option Str)), vs = [.ref pc, .ref pf] ∧ CfAt H pc pf cy cells fs ∧
  ∀ (d : Addr) (F : List Str) (g : Str → Addr) (H' : Hp), Groups H' d (rowsOf cells fs) F g → H d = none → Same H H' → Q (.ref d) H'
def spLawRowMade : Sp := fun vs H Q _ => ∃ (pc pf : Addr) (cy : List V) (cells : List (List Int)) (fs : List (Option Str)), vs = [.ref pc, .ref pf] ∧ CfAt H pc pf cy cells fs ∧ ∀ H', Same H H' → Q (.bl (madeB "row" (rowsOf cells fs))) H'
structure EndedL (rows : List (List Int × Str)) (F : List Str) (ms : Str → List Int) : Prop where
  ok : ∀ z ∈ F, MarksOk 6 (ms z)
  un : Under rows fun z m => m ∈ ms z
  st : Still rows fun z m => m ∈ ms z
def spLawShrink : Sp := fun vs H Q _ => ∃ (d : Addr) (rows : List (List Int × Str)) (F : List Str) (g : Str → Addr), vs = [.ref d] ∧ Groups H d rows F g ∧ (∀ r ∈ rows, MarksOk 6 r.1) ∧ rows.length ≤ 63 ∧
  ∀ (e : Addr) (ms : Str → List Int) (k : Str → Addr) (H' : Hp), HeldAt H' e F ms k → EndedL rows F ms → Same H H' → Q (.ref e) H'
def spLawWithinMade : Sp := fun vs H Q _ => ∃ (pc pf : Addr) (cy : List V) (cells : List (List Int)) (fs : List (Option Str)), vs = [.ref pc, .ref pf] ∧ CfAt H pc pf cy cells fs ∧ ∀ H', Same H H' → Q (.bl (madeB "within" (rowsOf cells fs))) H'
def spLawMade : Sp := fun vs H Q _ => ∃ (pc pf : Addr) (cy : List V) (cells : List (List Int)) (fs : List (Option Str)) (man : Str), vs = [.ref pc, .ref pf, .str man] ∧ CfAt H pc pf cy cells fs ∧ Man2 man ∧ ∀ H', Same H H' → Q (.bl (madeB man (rowsOf cells fs))) H'
end Xci

namespace Xci
open PySem PySem.Spec PyProof.Rows L2
/-- the list at a and the tuple at b as they stand at each turn, their items in new pairs -/
def ItzN (K : PySem.W.Frag) (a b : Addr) : It :=
  ⟨fun i H => ∃ (xs ys : List V) (x y : V), (SqL K H a xs ∧ SqT K H b ys) ∧ xs[i]? = some x ∧ ys[i]? = some y,
    fun i H v H' => ∃ T x y, v = .ref T ∧ (H T = none ∧ H' = upd H T (.tup [x, y])) ∧ (∀ xs, SqL K H a xs → xs[i]? = some x) ∧ ∀ ys, SqT K H b ys → ys[i]? = some y,
    fun i H => ∃ xs ys : List V, (SqL K H a xs ∧ SqT K H b ys) ∧ xs.length = ys.length ∧ i = xs.length⟩
/-- the state of such a zip at its i-th turn -/
def ZStN (z TI TO i1 i2 a b : Addr) (i : Nat) (h : Heap) : Prop := IsZip h z TI TO .none ∧ IsTupOf2 h TI (.ref i1) (.ref i2) ∧ (∃ p q, IsTupOf2 h TO p q) ∧ h.IsListIter i1 a i ∧ h.IsTupleIter i2 b i
theorem fiveN {c z TI TO i1 i2 : Addr} (h : c ∈ [z, TI, TO, i1, i2]) : c = z ∨ c = TI ∨ c = TO ∨ c = i1 ∨ c = i2 := by simpa using h
theorem ZStN.low {z TI TO i1 i2 a b : Addr} {i : Nat} {h : Heap} (st : ZStN z TI TO i1 i2 a b i h) : ∀ c ∈ [z, TI, TO, i1, i2], c < h.objs.size := by
  obtain ⟨q1, q2, ⟨_, _, q3⟩, ⟨_, q4, _⟩, ⟨_, q5, _⟩⟩ := st
  intro c hc
  rcases fiveN hc with e | e | e | e | e <;> subst e
  · exact Heap.lt_size q1
  · exact Heap.lt_size q2
  · exact Heap.lt_size q3
  · exact Heap.lt_size q4
  · exact Heap.lt_size q5
theorem turn_zipN {P : Program} {w : World} {K : PySem.W.Frag} {elts : List Expr} {kk : Nat} {tpos : Pos} {a b z TI TO i1 i2 : Addr} (S : ZipSep2 z TI TO i1 i2 [i1, a] [i2, b]) (n1 : a ≠ i1) (n2 : b ≠ i2) :
    Turn P w K (.Tuple elts kk tpos) (ItzN K a b) [z, TI, TO, i1, i2] z (ZStN z TI TO i1 i2 a b) where
  mem := by simp
  self := fun _ _ _ _ _ st q => wpAny_pyIter_zip st.1 q
  keep := fun i h h' st k => by
    obtain ⟨q1, q2, ⟨p, q, q3⟩, q4, q5⟩ := st
    exact ⟨k _ (by simp) _ q1, k _ (by simp) _ q2, ⟨p, q, k _ (by simp) _ q3⟩, q4.at fun o e => k _ (by simp) o e, q5.at fun o e => k _ (by simp) o e⟩
  obj := fun i h st c hc => by
    obtain ⟨q1, q2, ⟨_, _, q3⟩, ⟨o4, q4, _, d4⟩, ⟨o5, q5, _, d5⟩⟩ := st
    rcases fiveN hc with e | e | e | e | e <;> subst e
    · exact ⟨_, q1, fun v q => nomatch q⟩
    · exact ⟨_, q2, fun v q => nomatch q⟩
    · exact ⟨_, q3, fun v q => nomatch q⟩
    · exact ⟨o4, q4, fun v q => by rw [d4] at q; cases q⟩
    · exact ⟨o5, q5, fun v q => by rw [d5] at q; cases q⟩
  item := by
    intro X hP hw hK hc i pins s σ H E I hf st hg
    subst hP hw hK
    have low := st.low
    obtain ⟨q1, q2, ⟨p, q, q3⟩, q4, q5⟩ := st
    obtain ⟨xs, ys, x, y, ⟨hx, hy⟩, ex, ey⟩ := hg
    obtain ⟨us, rx, tx, _⟩ := I.list hx
    obtain ⟨vs, ry, ty, _⟩ := I.tuple hy
    obtain ⟨u, eu, ru⟩ := rx.get ex
    obtain ⟨v, ev, rv⟩ := ry.get ey
    have lu : i < us.toArray.size := by simpa using (List.getElem?_eq_some_iff.mp eu).1
    have lv : i < vs.toArray.size := by simpa using (List.getElem?_eq_some_iff.mp ev).1
    have calm : X.A.in1.handled = none := I.ok.hd hc
    refine wpAny_pyNext_zipD2_item (prog := X.prog) (w := X.w) (A := X.A) S (Draws.list calm i1 a n1 us.toArray) (Draws.tuple calm i2 b n2 vs.toArray) q1 q2 q3 ⟨q4, tx.isList⟩ ⟨q5, ty⟩ lu lv fun u' v' h' tk eu' ev' z' TO' s1' s2' hT hsz hk => ?_
    obtain rfl : u' = u := Option.some.inj (eu'.symm.trans (by simpa using eu))
    obtain rfl : v' = v := Option.some.inj (ev'.symm.trans (by simpa using ev))
    refine ⟨_, rfl, wpAny_letOwnedTupleGo_zip (s := { s with heap := h', toks := tk }) z' fun h'' z'' sb => ?_⟩
    have zl : z < s.heap.objs.size := low z (by simp)
    have top : h''.get? s.heap.objs.size = some { cls := .type "tuple", data := .seq #[u', v'] } := (sb.2 _ (Nat.ne_of_gt zl)).trans hT
    have made : ObjOk X.prog X.w (upd H s.heap.objs.size (.tup [x, y])) h'' s.heap.objs.size (.tup [x, y]) := ⟨by show 2 ≤ sizeLine; decide, [u', v'], .cons ru (.cons rv .nil), _, top, rfl, _, rfl⟩
    have all : ∀ c o, c ∉ [z, TI, TO, i1, i2] → s.heap.get? c = some o → h''.get? c = some o := fun c o hb e =>
      (sb.2 c fun e' => hb (by simp [e'])).trans (hk c o (fun e' => hb (by simp [e'])) (fun e' => hb (by simp [e'])) (fun e' => hb (by simp [e'])) (fun e' => hb (by simp [e'])) e)
    have I1 : Inv X pins σ (upd H s.heap.objs.size (.tup [x, y])) { s with heap := h'', toks := tk } := I.turnedNew (ch := [z, TI, TO, i1, i2]) all hf (Nat.le_refl _) made
    refine ⟨.ref s.heap.objs.size, _, I1, rfl, ⟨_, x, y, rfl, ⟨I.hok.fresh (Nat.le_refl _), rfl⟩, fun l hl => by rw [I.list_inj hl hx]; exact ex, fun l hl => by rw [I.tuple_inj hl hy]; exact ey⟩, ⟨z'', ?_, ⟨u', v', ?_⟩, ?_, ?_⟩, fun c hcm => ?_⟩
    · exact (sb.2 _ S.TIz).trans (hk _ _ S.TIz S.TITO S.TIi1 S.TIi2 q2)
    · exact (sb.2 _ S.TOz).trans TO'
    · exact s1'.1.at fun o e => (sb.2 _ (Ne.symm S.zi1)).trans e
    · exact s2'.1.at fun o e => (sb.2 _ (Ne.symm S.zi2)).trans e
    · rw [upd_ne (Nat.ne_of_lt (low c hcm))]
      exact (hf c hcm).1
  done := by
    intro X hP hw hK hc i pins s σ H E I hf st hg
    subst hP hw hK
    obtain ⟨q1, q2, ⟨p, q, q3⟩, q4, q5⟩ := st
    obtain ⟨xs, ys, ⟨hx, hy⟩, el, rfl⟩ := hg
    obtain ⟨us, rx, tx, _⟩ := I.list hx
    obtain ⟨vs, ry, ty, _⟩ := I.tuple hy
    have l1 : xs.length = us.toArray.size := by rw [rx.length]; simp
    have l2 : ys.length = vs.toArray.size := by rw [ry.length]; simp
    have calm : X.A.in1.handled = none := I.ok.hd hc
    exact wpAny_pyNext_zipD2_end (prog := X.prog) (w := X.w) (A := X.A) S (Draws.list calm i1 a n1 us.toArray) (Draws.tuple calm i2 b n2 vs.toArray) q1 q2 q3 ⟨q4, tx.isList⟩ ⟨q5, ty⟩ (by omega) (by omega) (.inl l1) fun h' tk hk =>
      ⟨rfl, I.turnedL (t' := tk) (ch := [z, TI, TO, i1, i2]) (fun c o hb e => hk c o (fun e' => hb (by simp [e'])) (fun e' => hb (by simp [e'])) (fun e' => hb (by simp [e'])) (fun e' => hb (by simp [e'])) e) hf⟩
def iZipN (K : PySem.W.Frag) (ta : TA) : TI := fun σ H R => ta σ H fun vs H1 => ∃ a b xs ys, vs = [.ref a, .ref b] ∧ (SqL K H1 a xs ∧ SqT K H1 b ys) ∧ R (ItzN K a b) H1
theorem pi_zipN {X : Cx} {e e2 : Expr} {ta : TA} {p pos tpos : Pos} {elts : List Expr} {kk : Nat} (hg : Gl X "zip") (hm : X.mg "zip" = none) (ha : PA X [e, e2] ta)
    (hs : starEach [e, e2] X.env = (false, eval e X.env) :: starEach [e2] X.env := by rfl) (hpl : (backTo pos (starEach [e2] X.env)).any (·.1) = false := by rfl) :
    PI X (.Tuple elts kk tpos) (.Call (.Name "zip" p) [e, e2] [] pos) (iZipN X.K ta) := by
  refine ⟨fun pins s σ H R I h => Call_ (ld_blt I hg hm boot_zip (callWith_type1 (thn (ha.run pos pins s σ H _ I h) fun us s1 ⟨vs, H1, I1, r1, q1⟩ => ?_) hs hpl))⟩
  obtain ⟨a, b, xs, ys, rfl, ⟨hx, hy⟩, q⟩ := q1
  obtain ⟨u1, u2, rfl, r, r'⟩ := vals2 r1
  cases r
  cases r'
  obtain ⟨us, rx, tx, _⟩ := I1.list hx
  obtain ⟨vs, ry, ty, _⟩ := I1.tuple hy
  have al : a < s1.heap.objs.size := by obtain ⟨_, e, _⟩ := id tx.isList; exact Heap.lt_size e
  have bl : b < s1.heap.objs.size := by obtain ⟨_, e, _⟩ := id ty; exact Heap.lt_size e
  have sep := zip_sep2 (N := s1.heap.objs.size) (fp1 := [a]) (fp2 := [b]) (fun c hc => by rw [List.mem_singleton.mp hc]; exact al) (fun c hc => by rw [List.mem_singleton.mp hc]; exact bl)
  refine zip_begins2 (begins_list a us.toArray) (begins_tuple b vs.toArray) tx.isList ty fun h' z' TI' TO' o1 o2 hsz hk => wpAny_pyIter_zip z' ?_
  refine ⟨s1.heap.objs.size + 4, [s1.heap.objs.size + 4, s1.heap.objs.size + 2, s1.heap.objs.size + 3, s1.heap.objs.size, s1.heap.objs.size + 1], _, _, H1, rfl, I1.kept (t' := s1.toks) hk, turn_zipN sep (Nat.ne_of_lt al) (Nat.ne_of_lt (Nat.lt_succ_of_lt bl)),
    ⟨z', TI', ⟨_, _, TO'⟩, ⟨_, o1, rfl, rfl⟩, ⟨_, o2, rfl, rfl⟩⟩, fun c hc => ?_, q⟩
  have low : s1.heap.objs.size ≤ c := by
    rcases fiveN hc with e | e | e | e | e <;> rw [e]
    · exact Nat.le_add_right _ _
    · exact Nat.le_add_right _ _
    · exact Nat.le_add_right _ _
    · exact Nat.le_refl _
    · exact Nat.le_add_right _ _
  exact I1.fpOk low (I1.hok.fresh low)
theorem walk_zipN {K : PySem.W.Frag} {a b : Addr} {xs ys : List V} (hl : xs.length = ys.length) : Walk (ItzN K a b) xs.length (fun H => SqL K H a xs ∧ SqT K H b ys) (fun i H v H' => ∃ T x y, v = .ref T ∧ H T = none ∧ H' = upd H T (.tup [x, y]) ∧ xs[i]? = some x ∧ ys[i]? = some y) :=
  ⟨fun i H hi q => ⟨xs, ys, xs[i], ys[i]'(hl ▸ hi), q, List.getElem?_eq_getElem hi, List.getElem?_eq_getElem (hl ▸ hi)⟩, fun H q => ⟨xs, ys, q, hl, rfl⟩, fun i H v H' hi q ⟨T, x, y, e1, ⟨e2, e3⟩, f, g⟩ => ⟨T, x, y, e1, e2, e3, f xs q.1, g ys q.2⟩⟩
end Xci

namespace Xci
open PySem L2
theorem shared_snoc {rows : List (List Int × Str)} {c : List Int} {z y : Str} {m : Int} : Shared0 (rows ++ [(c, z)]) y m ↔ Shared0 rows y m ∧ (z = y → m ∈ c) := by
  constructor
  · intro h
    exact ⟨fun r hr e => h r (List.mem_append_left _ hr) e, fun e => h (c, z) (List.mem_append_right _ (List.mem_singleton.mpr rfl)) e⟩
  · rintro ⟨h, g⟩ r hr e
    rcases List.mem_append.mp hr with q | q
    · exact h r q e
    · rw [List.mem_singleton.mp q] at e ⊢
      exact g e
theorem named_snoc {rows : List (List Int × Str)} {c : List Int} {z y : Str} : Named (rows ++ [(c, z)]) y ↔ Named rows y ∨ y = z := by
  constructor
  · rintro ⟨r, hr, e⟩
    rcases List.mem_append.mp hr with q | q
    · exact .inl ⟨r, q, e⟩
    · rw [List.mem_singleton.mp q] at e
      exact .inr e.symm
  · rintro (⟨r, hr, e⟩ | e)
    · exact ⟨r, List.mem_append_left _ hr, e⟩
    · exact ⟨(c, z), List.mem_append_right _ (List.mem_singleton.mpr rfl), e.symm⟩
theorem Names.snoc {rows : List (List Int × Str)} {F : List Str} {c : List Int} {z : Str} (N : Names rows F) : Names (rows ++ [(c, z)]) (withZ F z) :=
  ⟨with_nodup N.nd, fun y => by rw [with_mem, named_snoc, N.mem]⟩
def setX (x : Str → Nat) (z : Str) (n : Nat) (y : Str) : Nat := if y = z then n else x y
theorem setX_at (x : Str → Nat) (z : Str) (n : Nat) : setX x z n z = n := if_pos rfl
theorem setX_ne {x : Str → Nat} {z y : Str} {n : Nat} (h : y ≠ z) : setX x z n y = x y := if_neg h
theorem setG_mask (x : Str → Nat) (z : Str) (n : Nat) : setG (maskV x) z (.int (n : Nat)) = maskV (setX x z n) := funext fun y => by
  unfold setG maskV setX
  split <;> rfl
def nextN (F : List Str) (x : Str → Nat) (c : List Int) (z : Str) : Nat := if z ∈ F then x z &&& maskN c else maskN c
theorem AreShared.snoc {rows : List (List Int × Str)} {F : List Str} {x : Str → Nat} {c : List Int} {z : Str} {n : Int} (N : Names rows F) (S : AreShared rows F x) (ok : MarksOk n c) : AreShared (rows ++ [(c, z)]) (withZ F z) (setX x z (nextN F x c z)) := by
  intro y hy m
  rw [shared_snoc]
  have hc := has_mask ok.up ok.lo m
  by_cases e : y = z
  · subst e
    rw [setX_at]
    unfold nextN
    by_cases q : y ∈ F
    · rw [if_pos q, has_and, hc, S y q m]
      exact ⟨fun h => ⟨h.1, fun _ => h.2⟩, fun h => ⟨h.1, h.2 rfl⟩⟩
    · rw [if_neg q, hc]
      exact ⟨fun h => ⟨fun r hr er => absurd ((N.mem y).mpr ⟨r, hr, er⟩) q, fun _ => h⟩, fun h => h.2 rfl⟩
  · rw [setX_ne e]
    have q : y ∈ F := (with_mem.mp hy).elim id fun h => absurd h e
    rw [S y q m]
    exact ⟨fun h => ⟨h, fun h' => absurd h'.symm e⟩, fun h => h.1⟩
section
variable {P : Program} {w : World} {K : PySem.W.Frag} {mg : Str → Option Value} {base : Heap}
abbrev sCommonBits : Stmt := top 19
theorem scCommonBits : FnScope ["lots", "forms", "shared", "lot", "form"] ["lots", "forms"] (defScope sCommonBits) := ⟨rfl, rfl, rfl, by decide +kernel, rfl, by decide +kernel, by decide +kernel⟩
set_option maxHeartbeats 4000000 in
theorem ok_commonBits {f : Addr} {fd : FuncData} (F : Fun K "common_bits" "common_bits" sCommonBits f fd) (T : Txt mg) : FnOk P w K mg base CX0 1 f fd ["lots", "forms"] (spCommonBits false) := by
  refine F.ok scCommonBits (fun vs H Q E h => ?_) (fun cdv A outer s H vs Q E hr h => ?_)
  · obtain ⟨q, p, cells, fs, rfl, _⟩ := h
    rfl
  · obtain ⟨q, p, cells, fs, rfl, L, k⟩ := h
    refine ⟨_, (pss_cons (ps_set (i := 2) scCommonBits.nd rfl (by first | exact Or.inl rfl | exact Or.inr rfl) pe_dnewK)
      (pss_cons (ps_for PassesOwn.never rfl (pi_zipN rfl T.zip (pa_cons (pv 0) (pa_cons (pv 1) pa_nil))) (pg_tup rfl (pgs_cons (pg_name (i := 3) scCommonBits.nd rfl (by first | exact Or.inl rfl | exact Or.inr rfl)) (pgs_cons (pg_name (i := 4) scCommonBits.nd rfl (by first | exact Or.inl rfl | exact Or.inr rfl)) pgs_nil))) (pss_one (ps_if (pt_cmpR op_notN (pv 4) pe_non (nomark _)) (pss_one (ps_dput (hu1 hr) (pv 2) (pv 4) (pe_op op_and (pe_dget2 (hu1 hr) (pv 2) (pv 4) (pv 3) ⟨rfl, rfl, rfl, rfl⟩) (pv 3)) rfl)) pss_nil)))
      (pss_one (ps_ret (pv 2))))), ?_⟩
    have hq := L.q
    have hp : H p = some (.tup (fs.map formV)) := L.p
    have lz : (bitsV cells).length = (fs.map formV).length := by rw [List.length_map, bitsV_len]; exact L.len
    refine fun d hd => ?_
    have s1 : Same H (upd H d (.dK [])) := Same.new hd
    have e1 : (upd H d (.dK [])) d = some (.dK []) := upd_same
    generalize upd H d (.dK []) = H1 at *
    refine ⟨_, rfl, _, rfl, q, p, _, _, rfl, ⟨SqL.of (s1 _ _ hq), sqT (s1 _ _ hp)⟩, ?_⟩
    refine for_it (walk_zipN (K := K) (a := q) (b := p) lz) (fun i σ H2 => Same H H2 ∧ (∃ (F : List Str) (x : Str → Nat), H2 d = some (.dK (dkOf F (maskV x))) ∧ F.length ≤ i ∧ Names (rowsOf (cells.take i) (fs.take i)) F ∧ AreShared (rowsOf (cells.take i) (fs.take i)) F x) ∧ ∃ o3 o4 : Option V, σ = [some (.ref q), some (.ref p), some (.ref d), o3, o4])
      ⟨s1, ⟨[], fun _ => 0, e1, Nat.le_refl _, ⟨List.nodup_nil, fun z => ⟨nofun, fun ⟨r, hr, _⟩ => nomatch hr⟩⟩, nofun⟩, _, _, rfl⟩ (fun i σ H2 _ ⟨e, _⟩ => ⟨SqL.of (e _ _ hq), sqT (e _ _ hp)⟩) ?_ ?_
    · rintro i x σ H2 H3 hi ⟨s2, ⟨F, x0, e2, l2, N, S⟩, o3, o4, rfl⟩ ⟨T0, x1, x2, rfl, hT, rfl, hx1, hx2⟩
      obtain ⟨c, ec, rfl⟩ := bits_at hx1
      rw [List.getElem?_map] at hx2
      obtain ⟨fo, hfo, rfl⟩ := Option.map_eq_some_iff.mp hx2
      have s3 : Same H2 (upd H2 T0 (.tup [.int (maskN c : Nat), formV fo])) := Same.new hT
      have eT : (upd H2 T0 (.tup [.int (maskN c : Nat), formV fo])) T0 = some (.tup [.int (maskN c : Nat), formV fo]) := upd_same
      generalize upd H2 T0 (.tup [.int (maskN c : Nat), formV fo]) = H3 at *
      have cok := L.ok c (List.mem_of_getElem? ec)
      have rows := rows_take ec hfo
      have i63 : i ≤ 63 := by rw [bitsV_len] at hi; exact Nat.le_trans (Nat.le_of_lt hi) L.few
      refine ⟨T0, _, rfl, sqT eT, rfl, _, _, rfl, _, _, rfl, rfl, ?_⟩
      refine ⟨_, rfl, rfl, _, rfl, ?_⟩
      cases fo with
      | none =>
        rw [List.append_nil] at rows
        refine iteF ⟨s2.trans s3, ⟨F, x0, s3 _ _ e2, by omega, by rw [rows]; exact N, by rw [rows]; exact S⟩, _, _, rfl⟩
      | some z =>
        refine iteT ?_
        have e3 := s3 _ _ e2
        have got : DGet H3 d (.str z) (if z ∈ F then some (maskV x0 z) else none) := by
          have := DGet.k (k := Sum.inr z) e3
          by_cases h : z ∈ F
          · rw [dk_val h] at this; rw [if_pos h]; exact this
          · rw [dk_none h] at this; rw [if_neg h]; exact this
        have val : ∃ a : Nat, ((if z ∈ F then some (maskV x0 z) else none : Option V).getD (.int (maskN c : Nat))) = .int (a : Nat) ∧ a &&& maskN c = nextN F x0 c z := by
          unfold nextN
          by_cases h : z ∈ F
          · rw [if_pos h, if_pos h]; exact ⟨x0 z, rfl, rfl⟩
          · rw [if_neg h, if_neg h]; exact ⟨maskN c, rfl, Nat.and_self _⟩
        obtain ⟨a, ea, en⟩ := val
        refine ⟨_, rfl, d, rfl, .inl ⟨_, .inl e3⟩, _, rfl, _, rfl, _, got, _, rfl, _, _, ea, rfl, ?_⟩
        refine ⟨_, rfl, _, rfl, d, _, rfl, DPut.k (k := Sum.inr z) e3 (small1000 (by rw [dk_len]; omega)), ?_⟩
        have put : putK (dkOf F (maskV x0)) (Sum.inr z) (V.int (Builtin.bitAnd (a : Int) (maskN c : Nat))) = dkOf (withZ F z) (maskV (setX x0 z (nextN F x0 c z))) := by rw [PySem.W.os_band, en, dk_with, setG_mask]
        refine ⟨fun b o h => by rw [upd_ne (ne_of_none h hd)]; exact s3 _ _ (s2 b o h), ⟨withZ F z, setX x0 z (nextN F x0 c z), upd_same.trans (congrArg (fun l => some (HO.dK l)) put), Nat.le_trans (with_len F z) (by omega), by rw [rows]; exact N.snoc, by rw [rows]; exact S.snoc N cok⟩, _, _, rfl⟩
    · rintro σ H2 ⟨s2, ⟨F, x0, e2, l2, N, S⟩, o3, o4, rfl⟩
      rw [bitsV_len, rows_none _ _ _ (Nat.le_refl _) (by rw [L.len]; exact Nat.le_refl _)] at N S
      exact ⟨_, rfl, k d F x0 H2 e2 hd N S s2⟩
end
end Xci

namespace Xci
open PySem L2
section
variable {P : Program} {w : World} {K : PySem.W.Frag} {mg : Str → Option Value} {base : Heap}
abbrev sBits : Stmt := top 11
theorem scBits : FnScope ["marks", "mark"] ["marks"] (defScope sBits) := ⟨rfl, rfl, rfl, by decide +kernel, rfl, by decide +kernel, by decide +kernel⟩
theorem ok_bits {f : Addr} {fd : FuncData} (F : Fun K "bits" "bits" sBits f fd) (T : Txt mg) : FnOk P w K mg base CX0 1 f fd ["marks"] spBits := by
  refine F.ok scBits (fun vs H Q E h => ?_) (fun cdv A outer s H vs Q E hr h => ?_)
  · obtain ⟨v, ms, rfl, _⟩ := h
    rfl
  · obtain ⟨v, ms, rfl, ⟨p, rfl, hp⟩, ok, k⟩ := h
    refine ⟨_, (pss_one (ps_ret (pe_callB (cr_sum rfl) rfl T.sum (by decide +kernel) (pa_cons (pe_lc (own := [("mark", 1)]) rfl scBits.nd (pi_tup (pv 0)) (blkOk_by (N := ["marks", "mark"]) (sc := defScope sBits) (by decide +kernel)) (fun _ _ _ _ _ => (pg_name (i := 1) scBits.nd rfl (by first | exact Or.inl rfl | exact Or.inr rfl))) (fun _ _ _ _ _ => pts_nil) (fun _ _ _ _ _ => (pe_op op_shl pe_int (pv 1)))) pa_nil)))), ?_⟩
    have few := ok.len
    refine ⟨_, rfl, p, rfl, ⟨_, sqT hp⟩, fun D hD => ?_⟩
    refine lc_tup (K := K) (a := p) (xs := ms.map V.int) (fun i H4 => Same H H4 ∧ H4 D = some (.lst (((ms.take i).map fun m => (((2 ^ m.toNat : Nat)) : Int)).map V.int))) ⟨Same.new hD, upd_same⟩ (fun i H4 _ ⟨e, _⟩ => sqT (e _ _ hp)) ?_ ?_
    · rintro i x H4 hi ⟨sm, e4⟩
      obtain ⟨m, hm, rfl⟩ := int_of hi
      have mem := List.mem_of_getElem? hm
      have m0 := ok.lo m mem
      have m6 := ok.hi m mem
      refine ⟨rfl, _, rfl, _, _, rfl, rfl, ⟨m0, by omega, by decide⟩, _, e4, by rw [List.length_map, List.length_map]; exact small1000 (Nat.le_trans (List.length_take_le' _ _) (by omega)), fun b o h => by rw [upd_ne (ne_of_none h hD)]; exact sm b o h, ?_⟩
      rw [upd_same, List.take_add_one, hm, List.map_append, List.map_append]
      have e : (1 : Int) * 2 ^ m.toNat = ((2 ^ m.toNat : Nat) : Int) := by rw [Int.one_mul, Int.natCast_pow]; rfl
      show some (HO.lst (_ ++ [V.int ((1 : Int) * 2 ^ m.toNat)])) = _
      rw [e]; rfl
    · rintro H4 ⟨sm, e4⟩
      refine ⟨D, _, rfl, SqL.of e4, ?_⟩
      rw [List.length_map, List.take_length]
      have e : ∀ l : List Int, (l.map fun m => (((2 ^ m.toNat : Nat)) : Int)).sum = ((maskN l : Nat) : Int) := by
        intro l
        unfold maskN
        induction l with
        | nil => rfl
        | cons a r ih => rw [List.map_cons, List.map_cons, List.sum_cons, List.sum_cons, ih, Int.natCast_add]
      rw [e]
      exact k H4 sm
abbrev sCellBits : Stmt := top 18
theorem scCellBits : FnScope ["family", "cell"] ["family"] (defScope sCellBits) := ⟨rfl, rfl, rfl, by decide +kernel, rfl, by decide +kernel, by decide +kernel⟩
theorem ok_cellBits {f CF : Addr} {fd : FuncData} (F : Fun K "cell_bits" "cell_bits" sCellBits f fd) (FT : FamTxt K mg CF) (HBi : Has P w K mg base "bits" ["marks"] 1 spBits) : FnOk P w K mg base CX0 2 f fd ["family"] (spCellBits CF) := by
  refine F.ok scCellBits (fun vs H Q E h => ?_) (fun cdv A outer s H vs Q E hr h => ?_)
  · obtain ⟨fam, many, pc, cy, cells, rfl, _⟩ := h
    rfl
  · obtain ⟨fam, many, pc, cy, cells, rfl, ⟨df, hf⟩, hc, mc, ok, few, k⟩ := h
    refine ⟨_, (pss_one (ps_ret (pe_lc (own := [("cell", 1)]) rfl scCellBits.nd (pi_tup (pe_fld (pv 0) rfl)) (blkOk_by (N := ["family", "cell"]) (sc := defScope sCellBits) (by decide +kernel)) (fun _ _ _ _ _ => (pg_name (i := 1) scCellBits.nd rfl (by first | exact Or.inl rfl | exact Or.inr rfl))) (fun _ _ _ _ _ => pts_nil) (fun _ _ _ _ _ => (pe_callH HBi (hr.mono (by decide)) rfl (pa_cons (pv 1) pa_nil)))))), ?_⟩
    have lcy := Paired.length mc
    refine ⟨_, rfl, fam, CF, df, _, _, rfl, hf, FT.cl, FT.nC, famF_cells _ _, pc, rfl, ⟨_, sqT hc⟩, fun D hD => ?_⟩
    refine lc_tup (K := K) (a := pc) (xs := cy) (fun i H4 => Same H H4 ∧ H4 D = some (.lst (bitsV (cells.take i)))) ⟨Same.new hD, upd_same⟩ (fun i H4 _ ⟨e, _⟩ => sqT (e _ _ hc)) ?_ ?_
    · rintro i x H4 hi ⟨sm, e4⟩
      obtain ⟨c, ec, mcell⟩ := Paired.get (mc.keep (TFr.same sm)) hi
      refine ⟨rfl, _, rfl, x, c, rfl, mcell, ok c (List.mem_of_getElem? ec), fun H5 s5 => ⟨_, s5 _ _ e4, ?_, fun b o h => by rw [upd_ne (ne_of_none h hD)]; exact s5 _ _ (sm b o h), ?_⟩⟩
      · rw [bitsV_len]
        exact small1000 (Nat.le_trans (List.length_take_le' _ _) (by omega))
      · rw [upd_same, List.take_add_one, ec]
        unfold bitsV
        rw [List.map_append, List.map_append]; rfl
    · rintro H4 ⟨sm, e4⟩
      rw [lcy, List.take_length] at e4
      exact k D H4 e4 sm
theorem bit_in (x y : Nat) : (!(Builtin.bitAnd (x : Int) (Builtin.bitNot (y : Int)) != 0)) = decide (x &&& y = x) := by
  rw [Bool.eq_iff_iff, decide_eq_true_iff, ← less_zero]
  simp
theorem bit_out (x y : Nat) : (!decide (V.int (Builtin.bitAnd (x : Int) (Builtin.bitNot (y : Int))) = V.int 0)) = decide (x &&& y ≠ x) := by
  rw [Bool.eq_iff_iff, Bool.not_eq_true', decide_eq_false_iff_not, decide_eq_true_iff, V.int.injEq, less_zero]
abbrev sIsStruck : Stmt := top 21
theorem scIsStruck : FnScope ["left", "form", "other", "lot"] ["left", "form", "other", "lot"] (defScope sIsStruck) := ⟨rfl, rfl, rfl, by decide +kernel, rfl, by decide +kernel, by decide +kernel⟩
theorem ok_struck {f : Addr} {fd : FuncData} (F : Fun K "_is_struck" "_is_struck" sIsStruck f fd) : FnOk P w K mg base CX0 1 f fd ["left", "form", "other", "lot"] spStruck := by
  refine F.ok scIsStruck (fun vs H Q E h => ?_) (fun cdv A outer s H vs Q E hr h => ?_)
  · obtain ⟨d, F, x, z, o, c, rfl, _⟩ := h
    rfl
  · obtain ⟨d, F, x, z, o, c, rfl, hd, zF, oF, k⟩ := h
    refine ⟨_, (pss_one (ps_ret (pe_and (pe_notT (pe_op op_and (pe_dget (hu1 hr) (pv 0) (pv 1) (fun _ _ => rfl)) (pe_un un_inv (pv 3)))) (pe_one (pe_cmpR op_ne (pe_op op_and (pe_dget (hu1 hr) (pv 0) (pv 1) (fun _ _ => rfl)) (pe_un un_inv (pe_dget (hu1 hr) (pv 0) (pv 2) (fun _ _ => rfl)))) pe_int (nomark _)))))), ?_⟩
    have gz := dk_get hd zF
    have go := dk_get hd oF
    refine ⟨_, rfl, _, rfl, d, _, rfl, gz, _, rfl, _, rfl, _, _, rfl, rfl, _, rfl, _, rfl, ?_⟩
    rw [bit_in]
    refine ite2 (fun h => ?_) (fun h => ?_)
    · refine ⟨_, rfl, _, rfl, d, _, rfl, gz, _, rfl, _, rfl, d, _, rfl, go, _, rfl, _, _, rfl, rfl, rfl, ?_⟩
      rw [h, Bool.true_and] at k
      rw [bit_out]
      exact k
    · have e : decide (x z &&& maskN c = x z) = false := by
        cases q : decide (x z &&& maskN c = x z) with
        | true => exact absurd q h
        | false => rfl
      rw [e, Bool.false_and] at k
      exact k
end
end Xci

namespace Xci
open PySem L2
theorem filter_one {α : Type} (p : α → Bool) (a : α) : [a].filter p = if p a = true then [a] else [] := by rw [List.filter_cons, List.filter_nil]
theorem inV_none (L : List Str) : inV .non (L.map V.str) = false := by
  unfold inV
  rw [List.any_map, List.any_eq_false]
  intro y _
  exact Bool.false_ne_true
theorem take_any {α : Type} {l : List α} {p : α → Bool} {i : Nat} {a : α} (h : l[i]? = some a) : (l.take (i + 1)).any p = ((l.take i).any p || p a) := by
  rw [List.take_add_one, h, List.any_append]
  show (_ || (p a || false)) = _
  rw [Bool.or_false]
open Classical in
theorem reachB_iff {rows : List (List Int × Str)} {y z : Str} : reachB rows y z = true ↔ Reach rows y z := by
  unfold reachB
  exact decide_eq_true_iff
/-- who is stuck -/
theorem told_reach {rows : List (List Int × Str)} {F L : List Str} {x : Str → Nat} {z : Str} (S : AreShared rows F x) (zF : z ∈ F) (ok : ∀ r ∈ rows, MarksOk 6 r.1) :
    ((rows.filter fun r => decide (r.2 ∈ L)).any fun r => decide (x z &&& maskN r.1 = x z) && decide (r.2 ≠ z)) = L.any fun o => reachB rows z o := by
  rw [Bool.eq_iff_iff, List.any_eq_true, List.any_eq_true]
  have key : ∀ r ∈ rows, x z &&& maskN r.1 = x z ↔ ∀ m, Shared0 rows z m → m ∈ r.1 := fun r hr => by
    rw [and_sub]
    exact ⟨fun h m q => (has_mask (ok r hr).up (ok r hr).lo m).mp (h m ((S z zF m).mpr q)), fun h m q => (has_mask (ok r hr).up (ok r hr).lo m).mpr (h m ((S z zF m).mp q))⟩
  constructor
  · rintro ⟨r, hr, q⟩
    obtain ⟨h1, h2⟩ := List.mem_filter.mp hr
    rw [Bool.and_eq_true, decide_eq_true_iff, decide_eq_true_iff] at q
    refine ⟨r.2, of_decide_eq_true h2, ?_⟩
    rw [reachB_iff]
    exact ⟨fun e => q.2 e.symm, r, h1, rfl, (key r h1).mp q.1⟩
  · rintro ⟨o, ho, q⟩
    rw [reachB_iff] at q
    obtain ⟨ne, r, hr, e, w⟩ := q
    refine ⟨r, List.mem_filter.mpr ⟨hr, decide_eq_true (by rw [e]; exact ho)⟩, ?_⟩
    rw [Bool.and_eq_true, decide_eq_true_iff, decide_eq_true_iff]
    exact ⟨(key r hr).mpr w, fun e' => ne (by rw [← e', e])⟩
theorem rows_ok {cells : List (List Int)} {fs : List (Option Str)} (ok : ∀ c ∈ cells, MarksOk 6 c) : ∀ r ∈ rowsOf cells fs, MarksOk 6 r.1 := fun r hr => by
  obtain ⟨i, h1, _⟩ := rows_mem.mp hr
  exact ok r.1 (List.mem_of_getElem? h1)
theorem rows_few {cells : List (List Int)} {fs : List (Option Str)} : (rowsOf cells fs).length ≤ cells.length := by
  have h2 : (rowsOf cells fs).length ≤ (cells.zip fs).length := List.length_filterMap_le _ _
  rw [List.length_zip] at h2
  omega
theorem stand_step (R : Str → Str → Bool) {n : Nat} {L : List Str} (h : L.length ≤ n) (ne : L ≠ []) :
    stand R n L = if (L.filter fun z => L.any fun o => R z o).length = L.length then false else stand R n (L.filter fun z => L.any fun o => R z o) := by
  have le := List.length_filter_le (fun z => L.any fun o => R z o) L
  rw [stand_fuel R n (L.length - 1 + 1) L h (by omega)]
  show (if L = [] then true else if _ then false else _) = _
  rw [if_neg ne]
  by_cases e : (L.filter fun z => L.any fun o => R z o).length = L.length
  · rw [if_pos e, if_pos e]
  · rw [if_neg e, if_neg e]
    exact stand_fuel R _ _ _ (by omega) (by omega)
section
variable {P : Program} {w : World} {K : PySem.W.Frag} {mg : Str → Option Value} {base : Heap}
abbrev sReachesOne : Stmt := top 27
theorem scReachesOne : FnScope ["form", "marks", "told", "lot", "other"] ["form", "marks", "told"] (defScope sReachesOne) := ⟨rfl, rfl, rfl, by decide +kernel, rfl, by decide +kernel, by decide +kernel⟩
set_option maxHeartbeats 4000000 in
theorem ok_reachesOne {f : Addr} {fd : FuncData} (F : Fun K "_reaches_one" "_reaches_one" sReachesOne f fd) : FnOk P w K mg base CX0 1 f fd ["form", "marks", "told"] spReachesOne := by
  refine F.ok scReachesOne (fun vs H Q E h => ?_) (fun cdv A outer s H vs Q E hr h => ?_)
  · obtain ⟨z, n, l, ys, rows, rfl, _⟩ := h
    rfl
  · obtain ⟨z, n, l, ys, rows, rfl, hl, told, few, k⟩ := h
    refine ⟨_, (pss_cons (ps_for PassesOwn.never rfl (pi_list (pv 2)) (pg_tup rfl (pgs_cons (pg_name (i := 3) scReachesOne.nd rfl (by first | exact Or.inl rfl | exact Or.inr rfl)) (pgs_cons (pg_name (i := 4) scReachesOne.nd rfl (by first | exact Or.inl rfl | exact Or.inr rfl)) pgs_nil))) (pss_one (ps_if (PW.pt (pw_and (pt_not (pt_truth (pe_op op_and (pv 1) (pe_un un_inv (pv 3))) (fun _ => rfl))) (pw_and1 (pt_cmpR op_ne (pv 4) (pv 0) (nomark _))))) (pss_one (ps_ret pe_bl)) pss_nil)))
      (pss_one (ps_ret pe_bl))), ?_⟩
    have ly := Paired.length told
    refine ⟨_, rfl, l, rfl, ⟨_, SqL.of hl⟩, ?_⟩
    refine for_list (K := K) (a := l) (xs := ys) (fun i σ H1 => Same H H1 ∧ ((rows.take i).any fun r => decide (n &&& maskN r.1 = n) && decide (r.2 ≠ z)) = false ∧ ∃ o3 o4 : Option V, σ = [some (.str z), some (.int (n : Nat)), some (.ref l), o3, o4])
      ⟨Same.refl H, rfl, _, _, rfl⟩ (fun i σ H1 _ ⟨e, _⟩ => SqL.of (e _ _ hl)) ?_ ?_
    · rintro i x σ H1 hi ⟨s1, no, o3, o4, rfl⟩
      obtain ⟨r, er, t, rfl, ht⟩ := Paired.get (told.keep (TFr.same s1)) hi
      refine ⟨t, _, rfl, sqT ht, rfl, _, _, rfl, _, _, rfl, rfl, ?_⟩
      refine ⟨_, rfl, _, rfl, _, rfl, _, _, rfl, rfl, _, rfl, ?_⟩
      have nx := take_any (p := fun r : List Int × Str => decide (n &&& maskN r.1 = n) && decide (r.2 ≠ z)) er
      rw [no, Bool.false_or] at nx
      have go : ∀ b : Bool, (decide (n &&& maskN r.1 = n) && decide (r.2 ≠ z)) = b → b = true → (rows.any fun r => decide (n &&& maskN r.1 = n) && decide (r.2 ≠ z)) = true := fun b e hb => List.any_eq_true.mpr ⟨r, List.mem_of_getElem? er, e.trans hb⟩
      show (if (!(Builtin.bitAnd (n : Int) (Builtin.bitNot (maskN r.1 : Nat)) != 0)) = true then _ else _)
      rw [bit_in]
      refine ite2 (fun h1 => ?_) (fun h1 => ?_)
      · refine ⟨_, rfl, _, rfl, rfl, _, rfl, ?_⟩
        by_cases e : r.2 = z
        · have q : (!decide (V.str r.2 = V.str z)) = false := by rw [e]; simp
          rw [q]
          refine iteF ⟨s1, ?_, _, _, rfl⟩
          rw [nx, e, decide_eq_false (show ¬ z ≠ z from fun h => h rfl), Bool.and_false]
        · have q : (!decide (V.str r.2 = V.str z)) = true := by rw [decide_eq_false fun h => e (V.str.inj h)]; rfl
          rw [q]
          refine iteT ?_
          have := k H1 s1
          rw [go true (by rw [h1, decide_eq_true e]; rfl) rfl] at this
          exact this
      · refine ⟨s1, ?_, _, _, rfl⟩
        rw [nx, Bool.eq_false_iff.mpr h1, Bool.false_and]
    · rintro σ H1 ⟨s1, no, o3, o4, rfl⟩
      rw [ly, List.take_length] at no
      have := k H1 s1
      rw [no] at this
      exact this
abbrev sStandInARow : Stmt := top 26
theorem scStandInARow : FnScope ["lots", "forms", "shared", "left", "told", "lot", "form", "stuck"] ["lots", "forms"] (defScope sStandInARow) := ⟨rfl, rfl, rfl, by decide +kernel, rfl, by decide +kernel, by decide +kernel⟩
set_option maxHeartbeats 8000000 in
theorem ok_standInARow {f : Addr} {fd : FuncData} (F : Fun K "_stand_in_a_row" "_stand_in_a_row" sStandInARow f fd) (T : Txt mg) (HCb : Has P w K mg base "common_bits" ["lots", "forms"] 1 (spCommonBits false)) (HRo : Has P w K mg base "_reaches_one" ["form", "marks", "told"] 1 spReachesOne) : FnOk P w K mg base CX0 2 f fd ["lots", "forms"] (spStand false) := by
  refine F.ok scStandInARow (fun vs H Q E h => ?_) (fun cdv A outer s H vs Q E hr h => ?_)
  · obtain ⟨q, p, cells, fs, rfl, _⟩ := h
    rfl
  · obtain ⟨q, p, cells, fs, rfl, L, k⟩ := h
    refine ⟨_, (pss_cons (ps_set (i := 2) scStandInARow.nd rfl (by first | exact Or.inl rfl | exact Or.inr rfl) (pe_callH HCb (hr.mono (by decide)) rfl (pa_cons (pv 0) (pa_cons (pv 1) pa_nil))))
      (pss_cons (ps_set (i := 3) scStandInARow.nd rfl (by first | exact Or.inl rfl | exact Or.inr rfl) (pe_callTy (call_list_dK rfl) rfl T.list (by decide +kernel) (pa_cons (pv 2) pa_nil)))
      (pss_cons (ps_while PassesOwn.never (pt_truth (pv 3) (fun _ => rfl)) (pss_cons (ps_set (i := 4) scStandInARow.nd rfl (by first | exact Or.inl rfl | exact Or.inr rfl) (pe_lc (own := [("lot", 5), ("form", 6)]) rfl scStandInARow.nd (pi_zipN rfl T.zip (pa_cons (pv 0) (pa_cons (pv 1) pa_nil))) (blkOk_by (N := ["lots", "forms", "shared", "left", "told", "lot", "form", "stuck"]) (sc := defScope sStandInARow) (by decide +kernel)) (fun _ _ _ _ _ => (show PG _ _ (gTup K 2 _) from pg_tup rfl (pgs_cons (pg_name (i := 5) scStandInARow.nd rfl (by first | exact Or.inl rfl | exact Or.inr rfl)) (pgs_cons (pg_name (i := 6) scStandInARow.nd rfl (by first | exact Or.inl rfl | exact Or.inr rfl)) pgs_nil)))) (fun _ _ _ _ _ => pts_one (pt_cmpR (show OpR _ _ (rIn K false) from op_in_seq) (pv 6) (pv 3) (by with_unfolding_all rfl))) (fun _ _ _ _ _ => (pe_tup (pa_cons (pv 5) (pa_cons (pv 6) pa_nil))))))
      (pss_cons (ps_setLc (i := 7) (own := [("form", 6)]) rfl scStandInARow.nd rfl rfl (sw_true rfl rfl rfl (by decide +kernel)) (pi_list (pv 3)) (blkOk_by (N := ["lots", "forms", "shared", "left", "told", "lot", "form", "stuck"]) (sc := defScope sStandInARow) (by decide +kernel)) (fun _ _ _ _ _ => (pg_name (i := 6) scStandInARow.nd rfl (by first | exact Or.inl rfl | exact Or.inr rfl))) (fun _ _ _ _ _ => pts_one (pt_val (pe_callH HRo (hr.mono (by decide)) rfl (pa_cons (pv 6) (pa_cons (pe_dget (hu1 hr) (pv 2) (pv 6) (fun _ _ => rfl)) (pa_cons (pv 4) pa_nil)))))) (fun _ _ _ _ _ => (pv 6)))
      (pss_cons (ps_if (pt_cmpR op_eq (pe_callB call_len rfl T.len PySem.boot_len (pa_cons (pv 7) pa_nil)) (pe_callB call_len rfl T.len PySem.boot_len (pa_cons (pv 3) pa_nil)) (nomark _)) (pss_one (ps_ret pe_bl)) pss_nil)
      (pss_one (ps_set (i := 3) scStandInARow.nd rfl (by first | exact Or.inl rfl | exact Or.inr rfl) (pv 7)))))))
      (pss_one (ps_ret pe_bl))))), ?_⟩
    have hq := L.q
    have hp : H p = some (.tup (fs.map formV)) := L.p
    have lz : (bitsV cells).length = (fs.map formV).length := by rw [List.length_map, bitsV_len]; exact L.len
    refine ⟨_, rfl, _, rfl, q, p, cells, fs, rfl, L, fun d F x H1 hd nd N S s1 => ?_⟩
    have Fl : F.length ≤ 63 := Nat.le_trans N.len L.few
    have due := made_row N.nd N.mem (n := 64) (by omega)
    refine ⟨_, rfl, d, _, rfl, hd, fun ln hln => ?_⟩
    rw [dk_fst]
    have sA : Same H1 (upd H1 ln (.lst (F.map V.str))) := Same.new hln
    have eln : (upd H1 ln (.lst (F.map V.str))) ln = some (.lst (F.map V.str)) := upd_same
    have hdA := sA _ _ hd
    generalize upd H1 ln (.lst (F.map V.str)) = H2 at *
    refine ⟨fun m σ H4 => ∃ (la : Addr) (G : List Str) (o4 o5 o6 o7 : Option V), H4 d = some (.dK (dkOf F (maskV x))) ∧ H4 la = some (.lst (G.map V.str)) ∧ Same H H4 ∧ G.Nodup ∧ (∀ z ∈ G, z ∈ F) ∧ G.length ≤ 63 ∧ stand (reachB (rowsOf cells fs)) 64 G = madeB "row" (rowsOf cells fs) ∧ m = G.length ∧ σ = [some (.ref q), some (.ref p), some (.ref d), some (.ref la), o4, o5, o6, o7],
      ⟨_, ln, F, _, _, _, _, hdA, eln, s1.trans sA, N.nd, fun z h => h, Fl, due.symm, rfl, rfl⟩, ?_⟩
    rintro m σ H4 ⟨la, G, o4, o5, o6, o7, hd4, ela, s4, gnd, sub, gl, st, rfl, rfl⟩
    refine ⟨_, rfl, _, .inl ⟨_, SqL.of ela, rfl⟩, ?_⟩
    by_cases ge : G = []
    · subst ge
      refine iteF ?_
      have := k H4 s4
      rw [← st, stand_nil] at this
      exact this
    · have qe : (!(G.map V.str).isEmpty) = true := by
        cases G with
        | nil => exact absurd rfl ge
        | cons a r => rfl
      rw [qe]
      refine iteT ⟨fun σ' H' => ∃ m', m' < G.length ∧ _, fun _ _ h => h, ?_⟩
      refine ⟨_, rfl, _, rfl, q, p, _, _, rfl, ⟨SqL.of (s4 _ _ hq), sqT (s4 _ _ hp)⟩, fun D hD => ?_⟩
      have fl : ∀ fo : Option Str, flatV (formV fo) = true := fun fo => by cases fo <;> rfl
      refine lc_it (walk_zipN (K := K) (a := q) (b := p) lz) (fun i H5 => Same H4 H5 ∧ ∃ ys : List V, H5 D = some (.lst ys) ∧ ys.length ≤ i ∧ Told H5 ys ((rowsOf (cells.take i) (fs.take i)).filter fun r => decide (r.2 ∈ G))) ⟨Same.new hD, [], upd_same, Nat.le_refl _, .nil⟩ (fun i H5 _ ⟨e, _⟩ => ⟨SqL.of (e _ _ (s4 _ _ hq)), sqT (e _ _ (s4 _ _ hp))⟩) ?_ ?_
      · rintro i v H5 H6 hi ⟨s5, ys, e5, ly, t5⟩ ⟨T0, x1, x2, rfl, hT, rfl, hx1, hx2⟩
        obtain ⟨c, ec, rfl⟩ := bits_at hx1
        rw [List.getElem?_map] at hx2
        obtain ⟨fo, hfo, rfl⟩ := Option.map_eq_some_iff.mp hx2
        have s6 : Same H5 (upd H5 T0 (.tup [.int (maskN c : Nat), formV fo])) := Same.new hT
        have eT : (upd H5 T0 (.tup [.int (maskN c : Nat), formV fo])) T0 = some (.tup [.int (maskN c : Nat), formV fo]) := upd_same
        generalize upd H5 T0 (.tup [.int (maskN c : Nat), formV fo]) = H6 at *
        have rows := rows_take ec hfo
        have i63 : i ≤ 63 := by rw [bitsV_len] at hi; exact Nat.le_trans (Nat.le_of_lt hi) L.few
        have ela6 := s6 _ _ (s5 _ _ ela)
        refine ⟨T0, _, rfl, sqT eT, rfl, _, _, rfl, _, _, rfl, rfl, rfl, ?_⟩
        refine ⟨_, rfl, _, rfl, la, _, rfl, .inl (SqL.of ela6), fl fo, flat_strs G, _, rfl, ?_⟩
        have skip : ∀ R, rowsOf (cells.take (i + 1)) (fs.take (i + 1)) = rowsOf (cells.take i) (fs.take i) ++ R → (R.filter fun r => decide (r.2 ∈ G)) = [] → Same H4 H6 ∧ ∃ ys : List V, H6 D = some (.lst ys) ∧ ys.length ≤ i + 1 ∧ Told H6 ys ((rowsOf (cells.take (i + 1)) (fs.take (i + 1))).filter fun r => decide (r.2 ∈ G)) :=
          fun R e n => ⟨s5.trans s6, ys, s6 _ _ e5, by omega, by rw [e, List.filter_append, n, List.append_nil]; exact t5.keep (TFr.same s6)⟩
        cases fo with
        | none =>
          show (if inV .non (G.map V.str) = true then _ else _)
          rw [inV_none]
          exact iteF (skip [] rows rfl)
        | some z =>
          show (if inV (.str z) (G.map V.str) = true then _ else _)
          rw [inV_str]
          by_cases h : z ∈ G
          · rw [decide_eq_true h]
            refine iteT ⟨_, rfl, _, rfl, by show 2 ≤ sizeLine; decide, fun t ht => ?_⟩
            have s7 : Same H6 (upd H6 t (.tup [.int (maskN c : Nat), .str z])) := Same.new ht
            have e7 : (upd H6 t (.tup [.int (maskN c : Nat), .str z])) t = some (.tup [.int (maskN c : Nat), .str z]) := upd_same
            refine ⟨ys, s7 _ _ (s6 _ _ e5), small1000 (by omega), fun b o hb => by rw [upd_ne (ne_of_none hb hD)]; exact s7 _ _ (s6 _ _ (s5 _ _ hb)), ys ++ [.ref t], upd_same, by rw [List.length_append]; exact Nat.succ_le_succ ly, ?_⟩
            have tf : TFr (upd H6 t (.tup [.int (maskN c : Nat), .str z])) (upd (upd H6 t (.tup [.int (maskN c : Nat), .str z])) D (.lst (ys ++ [.ref t]))) := TFr.lst (s7 _ _ (s6 _ _ e5))
            have fil : (rowsOf (cells.take (i + 1)) (fs.take (i + 1))).filter (fun r => decide (r.2 ∈ G)) = (rowsOf (cells.take i) (fs.take i)).filter (fun r => decide (r.2 ∈ G)) ++ [(c, z)] := by
              rw [rows, List.filter_append]
              show _ ++ [(c, z)].filter _ = _
              rw [filter_one, if_pos (decide_eq_true h)]
            rw [fil]
            exact Paired.app (((t5.keep (TFr.same s6)).keep (TFr.same s7)).keep tf) (Paired.one ⟨t, rfl, tf _ _ e7⟩)
          · rw [decide_eq_false h]
            refine iteF (skip [(c, z)] rows ?_)
            rw [filter_one, if_neg (by rw [decide_eq_false h]; exact Bool.false_ne_true)]
      rintro H5 ⟨s5, ys, e5, ly, t5⟩
      rw [bitsV_len, rows_none _ _ _ (Nat.le_refl _) (by rw [L.len]; exact Nat.le_refl _)] at t5
      have hd5 := s5 _ _ hd4
      have ela5 := s5 _ _ ela
      have s05 := s4.trans s5
      have ys1000 : ys.length ≤ 1000 := by
        rw [Paired.length t5]
        have := List.length_filter_le (fun r : List Int × Str => decide (r.2 ∈ G)) (rowsOf cells fs)
        have := rows_few (cells := cells) (fs := fs)
        have := L.few
        omega
      clear hd4 ela s4 s5
      refine ⟨_, rfl, la, rfl, ⟨_, SqL.of ela5⟩, fun D2 hD2 => ?_⟩
      refine lc_list (K := K) (a := la) (xs := G.map V.str) (fun i H6 => Same H5 H6 ∧ H6 D2 = some (.lst (((G.take i).filter fun z => G.any fun o => reachB (rowsOf cells fs) z o).map V.str))) ⟨Same.new hD2, upd_same⟩ (fun i H6 _ ⟨e, _⟩ => SqL.of (e _ _ ela5)) ?_ ?_
      · rintro i v H6 hi ⟨s6, e6⟩
        rw [List.getElem?_map] at hi
        obtain ⟨z, hz, rfl⟩ := Option.map_eq_some_iff.mp hi
        have zG := List.mem_of_getElem? hz
        have zF := sub z zG
        have nx : (G.take (i + 1)).filter (fun z => G.any fun o => reachB (rowsOf cells fs) z o) = (G.take i).filter (fun z => G.any fun o => reachB (rowsOf cells fs) z o) ++ if (G.any fun o => reachB (rowsOf cells fs) z o) = true then [z] else [] := by
          rw [List.take_add_one, hz, List.filter_append]
          show _ ++ [z].filter _ = _
          rw [filter_one]
        refine ⟨rfl, _, rfl, _, rfl, _, rfl, d, _, rfl, dk_get (s6 _ _ hd5) zF, _, rfl, z, x z, D, ys, _, rfl, s6 _ _ e5, t5.keep (TFr.same s6), ys1000, fun H7 s7 => ⟨_, rfl, ?_⟩⟩
        rw [told_reach S zF (rows_ok L.ok)]
        refine ite2 (fun h => ?_) (fun h => ?_)
        · refine ⟨_, rfl, _, s7 _ _ e6, ?_, fun b o hb => by rw [upd_ne (ne_of_none hb hD2)]; exact s7 _ _ (s6 _ _ hb), ?_⟩
          · rw [List.length_map]
            exact small1000 (Nat.le_trans (List.length_filter_le _ _) (Nat.le_trans (List.length_take_le' _ _) (by omega)))
          · rw [upd_same, nx, if_pos h, List.map_append]; rfl
        · exact ⟨s6.trans s7, by rw [nx, if_neg h, List.append_nil]; exact s7 _ _ e6⟩
      rintro H6 ⟨s6, e6⟩
      rw [List.length_map, List.take_length] at e6
      have ela6 := s6 _ _ ela5
      have hd6 := s6 _ _ hd5
      have s06 := s05.trans s6
      have le := List.length_filter_le (fun z => G.any fun o => reachB (rowsOf cells fs) z o) G
      have step := stand_step (reachB (rowsOf cells fs)) (n := 64) (by omega) ge
      refine ⟨_, rfl, _, _, rfl, .inl ⟨_, SqL.of e6, rfl⟩, _, rfl, _, _, rfl, .inl ⟨_, SqL.of ela6, rfl⟩, rfl, _, rfl, ?_⟩
      rw [List.length_map, List.length_map]
      by_cases h : (G.filter fun z => G.any fun o => reachB (rowsOf cells fs) z o).length = G.length
      · rw [decide_eq_true (show V.int _ = V.int _ by rw [h])]
        refine iteT ?_
        rw [if_pos h, st] at step
        have := k H6 s06
        rw [step] at this
        exact this
      · rw [decide_eq_false (fun e => h (by injection e with e; omega))]
        refine iteF ⟨_, rfl, _, by omega, D2, _, _, _, _, _, hd6, e6, s06, gnd.sublist List.filter_sublist, fun z hz => sub z (List.mem_filter.mp hz).1, by omega, ?_, rfl, rfl⟩
        rw [if_neg h, st] at step
        exact step.symm
end
end Xci

namespace Xci
open PySem L2
section
variable {P : Program} {w : World} {K : PySem.W.Frag} {mg : Str → Option Value} {base : Heap}
abbrev sLawCommon : Stmt := top 44
theorem scLawCommon : FnScope ["cells", "mark", "cell"] ["cells"] (defScope sLawCommon) := ⟨rfl, rfl, rfl, by decide +kernel, rfl, by decide +kernel, by decide +kernel⟩
set_option maxHeartbeats 4000000 in
theorem ok_lawCommon {f : Addr} {fd : FuncData} (F : Fun K "_law_common" "_law_common" sLawCommon f fd) (T : Txt mg) : FnOk P w K mg base CX0 1 f fd ["cells"] spLawCommon := by
  refine F.ok scLawCommon (fun vs H Q E h => ?_) (fun cdv A outer s H vs Q E hr h => ?_)
  · obtain ⟨l, ys, cs, rfl, _⟩ := h
    rfl
  · obtain ⟨l, ys, cs, rfl, hl, mk, ne, ok, few, k⟩ := h
    refine ⟨_, (pss_one (ps_ret (pe_callTy call_tuple_of rfl T.tuple (by decide +kernel) (pa_cons (pe_lc (own := [("mark", 1)]) rfl scLawCommon.nd (pi_tup (pe_ix ix_list (pv 0) pe_int (fun _ _ => rfl))) (blkOk_by (N := ["cells", "mark", "cell"]) (sc := defScope sLawCommon) (by decide +kernel)) (fun _ _ _ _ _ => (pg_name (i := 1) scLawCommon.nd rfl (by first | exact Or.inl rfl | exact Or.inr rfl))) (fun _ _ _ _ _ => pts_one (pt_cmpR op_eq (pe_callB (show CallR _ _ (rLen K) from call_lenK) rfl T.len PySem.boot_len (pa_cons (pe_lc (own := [("cell", 2)]) rfl scLawCommon.nd (show PI _ _ _ (iList K (tVar 0)) from pi_list (pv 0)) (show BlkOk ["cells", "mark", "cell"] (relS _ (defScope sLawCommon)) _ _ from blkOk_by (by decide +kernel)) (fun _ _ _ _ _ => (pg_name (i := 2) scLawCommon.nd rfl (by first | exact Or.inl rfl | exact Or.inr rfl))) (fun _ _ _ _ _ => pts_one (pt_cmpR (show OpR _ _ (rIn K true) from op_notIn_seq) (pv 1) (pv 2) (by with_unfolding_all rfl))) (fun _ _ _ _ _ => (pv 2))) pa_nil)) pe_int (nomark _))) (fun _ _ _ _ _ => (pv 1))) pa_nil)))), ?_⟩
    have ly := Paired.length mk
    obtain ⟨c0, r0, rfl⟩ : ∃ c r, cs = c :: r := by
      cases cs with
      | nil => exact absurd rfl ne
      | cons c r => exact ⟨c, r, rfl⟩
    obtain ⟨v0, ev0, p0, rfl, hp0⟩ := Paired.get' (i := 0) (y := c0) mk rfl
    have ok0 := ok c0 List.mem_cons_self
    have l0 := ok0.len
    refine ⟨_, rfl, l, _, _, _, rfl, rfl, SqL.of hl, at_of (j := 0) rfl ev0, p0, rfl, ⟨_, sqT hp0⟩, fun D hD => ?_⟩
    refine lc_tup (K := K) (a := p0) (xs := c0.map V.int) (fun i H4 => Same H H4 ∧ H4 D = some (.lst (((c0.take i).filter fun m => (c0 :: r0).all fun c => decide (m ∈ c)).map V.int))) ⟨Same.new hD, upd_same⟩ (fun i H4 _ ⟨e, _⟩ => sqT (e _ _ hp0)) ?_ ?_
    · rintro i x H4 hi ⟨s4, e4⟩
      obtain ⟨m, hm, rfl⟩ := int_of hi
      have nx : (c0.take (i + 1)).filter (fun m => (c0 :: r0).all fun c => decide (m ∈ c)) = (c0.take i).filter (fun m => (c0 :: r0).all fun c => decide (m ∈ c)) ++ if ((c0 :: r0).all fun c => decide (m ∈ c)) = true then [m] else [] := by
        rw [List.take_add_one, hm, List.filter_append]
        show _ ++ [m].filter _ = _
        rw [filter_one]
      refine ⟨rfl, _, rfl, l, rfl, ⟨_, SqL.of (s4 _ _ hl)⟩, fun D2 hD2 => ?_⟩
      refine lc_list (K := K) (a := l) (xs := ys) (fun j H5 => Same H4 H5 ∧ ∃ zs : List V, H5 D2 = some (.lst zs) ∧ zs.length = (((c0 :: r0).take j).filter fun c => !decide (m ∈ c)).length) ⟨Same.new hD2, [], upd_same, rfl⟩ (fun j H5 _ ⟨e, _⟩ => SqL.of (e _ _ (s4 _ _ hl))) ?_ ?_
      · rintro j v H5 hj ⟨s5, zs, e5, lz⟩
        obtain ⟨c, ec, pc, rfl, hpc⟩ := Paired.get (mk.keep (TFr.same (s4.trans s5))) hj
        have nx2 : ((c0 :: r0).take (j + 1)).filter (fun c => !decide (m ∈ c)) = ((c0 :: r0).take j).filter (fun c => !decide (m ∈ c)) ++ if (!decide (m ∈ c)) = true then [c] else [] := by
          rw [List.take_add_one, ec, List.filter_append]
          show _ ++ [c].filter _ = _
          rw [filter_one]
        have lzj : zs.length ≤ 64 := by
          rw [lz]
          exact Nat.le_trans (List.length_filter_le _ _) (Nat.le_trans (List.length_take_le' _ _) few)
        refine ⟨rfl, _, rfl, _, rfl, pc, _, rfl, .inr (sqT hpc), rfl, flat_ints c, _, rfl, ?_⟩
        show (if (!inV (.int m) (c.map V.int)) = true then _ else _)
        rw [inV_int]
        refine ite2 (fun h => ?_) (fun h => ?_)
        · refine ⟨_, rfl, zs, e5, small1000 (by omega), fun b o hb => by rw [upd_ne (ne_of_none hb hD2)]; exact s5 _ _ hb, _, upd_same, ?_⟩
          rw [nx2, if_pos h, List.length_append, List.length_append, lz]; rfl
        · exact ⟨s5, zs, e5, by rw [nx2, if_neg h, List.append_nil]; exact lz⟩
      rintro H5 ⟨s5, zs, e5, lz⟩
      rw [ly, List.take_length] at lz
      refine ⟨_, _, rfl, .inl ⟨_, SqL.of e5, rfl⟩, rfl, _, rfl, ?_⟩
      have val : decide (V.int (zs.length : Nat) = V.int 0) = (c0 :: r0).all fun c => decide (m ∈ c) := by
        rw [Bool.eq_iff_iff, decide_eq_true_iff, V.int.injEq, List.all_eq_true]
        constructor
        · intro h c hc
          have z0 : zs.length = 0 := by omega
          rw [lz] at z0
          have := List.length_eq_zero_iff.mp z0
          cases q : decide (m ∈ c) with
          | true => rfl
          | false =>
            have : c ∈ (c0 :: r0).filter fun c => !decide (m ∈ c) := List.mem_filter.mpr ⟨hc, by rw [q]; rfl⟩
            rw [List.length_eq_zero_iff.mp z0] at this
            cases this
        · intro h
          have : (c0 :: r0).filter (fun c => !decide (m ∈ c)) = [] := by
            rw [List.filter_eq_nil_iff]
            intro c hc q
            rw [h c hc] at q
            cases q
          rw [lz, this]; rfl
      rw [val]
      have s45 := s4.trans s5
      refine ite2 (fun h => ?_) (fun h => ?_)
      · refine ⟨_, rfl, _, s5 _ _ e4, ?_, fun b o hb => by rw [upd_ne (ne_of_none hb hD)]; exact s45 _ _ hb, ?_⟩
        · rw [List.length_map]
          exact small1000 (Nat.le_trans (List.length_filter_le _ _) (Nat.le_trans (List.length_take_le' _ _) (by omega)))
        · rw [upd_same, nx, if_pos h, List.map_append]; rfl
      · exact ⟨s45, by rw [nx, if_neg h, List.append_nil]; exact s5 _ _ e4⟩
    · rintro H4 ⟨s4, e4⟩
      rw [List.length_map, List.take_length] at e4
      refine ⟨D, _, rfl, .inl ⟨SqL.of e4, fun p hp => ?_⟩⟩
      refine k p _ _ upd_same (ok0.sub List.filter_sublist) (fun m => ?_) (s4.trans (Same.new hp))
      rw [List.mem_filter, List.all_eq_true]
      constructor
      · rintro ⟨_, h⟩ c hc
        exact of_decide_eq_true (h c hc)
      · intro h
        exact ⟨h c0 List.mem_cons_self, fun c hc => decide_eq_true (h c hc)⟩
abbrev sLawGroups : Stmt := top 45
theorem scLawGroups : FnScope ["cells", "forms", "found", "cell", "form", "mine"] ["cells", "forms"] (defScope sLawGroups) := ⟨rfl, rfl, rfl, by decide +kernel, rfl, by decide +kernel, by decide +kernel⟩
set_option maxHeartbeats 4000000 in
theorem ok_lawGroups {f : Addr} {fd : FuncData} (F : Fun K "_law_groups" "_law_groups" sLawGroups f fd) (T : Txt mg) : FnOk P w K mg base CX0 1 f fd ["cells", "forms"] spLawGroups := by
  refine F.ok scLawGroups (fun vs H Q E h => ?_) (fun cdv A outer s H vs Q E hr h => ?_)
  · obtain ⟨pc, pf, cy, cells, fs, rfl, _⟩ := h
    rfl
  · obtain ⟨pc, pf, cy, cells, fs, rfl, L, k⟩ := h
    refine ⟨_, (pss_cons (ps_set (i := 2) scLawGroups.nd rfl (by first | exact Or.inl rfl | exact Or.inr rfl) pe_dnewK)
      (pss_cons (ps_for PassesOwn.never rfl (RZ.pi_zipA rfl T.zip (pa_cons (pv 0) (pa_cons (pv 1) pa_nil))) (pg_tup rfl (pgs_cons (pg_name (i := 3) scLawGroups.nd rfl (by first | exact Or.inl rfl | exact Or.inr rfl)) (pgs_cons (pg_name (i := 4) scLawGroups.nd rfl (by first | exact Or.inl rfl | exact Or.inr rfl)) pgs_nil))) (pss_one (ps_if (pt_cmpR op_notN (pv 4) pe_non (nomark _)) (pss_cons (ps_set (i := 5) scLawGroups.nd rfl (by first | exact Or.inl rfl | exact Or.inr rfl) (pe_dsetd (pv 2) (pv 4) (pe_lst pa_nil) ⟨rfl, rfl, rfl, rfl⟩))
      (pss_one (ps_expr (pe_bm PySem.F.plainAttrs_list PySem.F.slot_list_append PySem.F.type_list_append mt_append (pv 5) (pa_cons (pv 3) pa_nil))))) pss_nil)))
      (pss_one (ps_ret (pv 2))))), ?_⟩
    have ly := Paired.length L.m
    have lz : cy.length = (fs.map formV).length := by rw [List.length_map, ly]; exact L.len
    refine fun d hd => ?_
    have s1 : Same H (upd H d (.dK [])) := Same.new hd
    have e1 : (upd H d (.dK [])) d = some (.dK []) := upd_same
    generalize upd H d (.dK []) = H1 at *
    refine ⟨_, rfl, _, rfl, pc, pf, _, _, rfl, .inr ⟨sqT (s1 _ _ L.c), sqT (s1 _ _ L.f), ?_⟩⟩
    refine RZ.for_zipT (K := K) (a := pc) (b := pf) lz (fun i σ H2 => Same H H2 ∧ (∃ (F : List Str) (g : Str → Addr), Groups H2 d (rowsOf (cells.take i) (fs.take i)) F g ∧ F.length ≤ i ∧ (∀ z ∈ F, H (g z) = none) ∧ ∀ y ∈ F, ∀ z ∈ F, g y = g z → y = z) ∧ ∃ o3 o4 o5 : Option V, σ = [some (.ref pc), some (.ref pf), some (.ref d), o3, o4, o5])
      ⟨s1, ⟨[], fun _ => d, ⟨e1, ⟨List.nodup_nil, fun z => ⟨nofun, fun ⟨r, hr, _⟩ => nomatch hr⟩⟩, nofun⟩, Nat.le_refl _, nofun, nofun⟩, _, _, _, rfl⟩ (fun i σ H2 ⟨e, _⟩ => ⟨sqT (e _ _ L.c), sqT (e _ _ L.f)⟩) ?_ ?_
    · rintro i x1 x2 T0 σ H2 hx1 hx2 ⟨s2, ⟨F, g, G, l2, fg, inj⟩, o3, o4, o5, rfl⟩ hT
      rw [List.getElem?_map] at hx2
      obtain ⟨fo, hfo, rfl⟩ := Option.map_eq_some_iff.mp hx2
      obtain ⟨c, ec, mcell⟩ := Paired.get (L.m.keep (TFr.same s2)) hx1
      have s3 : Same H2 (upd H2 T0 (.tup [x1, formV fo])) := Same.new hT
      have eT : (upd H2 T0 (.tup [x1, formV fo])) T0 = some (.tup [x1, formV fo]) := upd_same
      generalize upd H2 T0 (.tup [x1, formV fo]) = H3 at *
      have rows := rows_take ec hfo
      have i63 : i ≤ 63 := by have := (List.getElem?_eq_some_iff.mp hfo).1; have := L.len; have := L.few; omega
      have s03 := s2.trans s3
      have G3 := G.same s3
      refine ⟨T0, _, rfl, sqT eT, rfl, _, _, rfl, _, _, rfl, rfl, ?_⟩
      refine ⟨_, rfl, rfl, _, rfl, ?_⟩
      cases fo with
      | none =>
        rw [List.append_nil] at rows
        refine iteF ⟨s03, ⟨F, g, by rw [rows]; exact G3, by omega, fg, inj⟩, _, _, _, rfl⟩
      | some z =>
        refine iteT ?_
        refine ⟨_, rfl, d, rfl, .inl ⟨_, .inl G3.at_⟩, _, rfl, Nat.zero_le _, fun q hq => ?_⟩
        have s4 : Same H3 (upd H3 q (.lst [])) := Same.new hq
        have eq4 : (upd H3 q (.lst [])) q = some (.lst []) := upd_same
        generalize upd H3 q (.lst []) = H4 at *
        have G4 := G3.same s4
        have s04 := s03.trans s4
        have fq : H q = none := by
          cases e : H q with
          | none => rfl
          | some u => have := s03 _ _ e; rw [hq] at this; cases this
        have dq : d ≠ q := ne_of_none G3.at_ hq
        have mc4 : Xci.Mk H4 x1 c := Tup.keep (TFr.same (s3.trans s4)) mcell
        refine ⟨_, Sum.inr z, G4.at_, rfl, small1000 (by rw [dk_len]; omega), fun v hv => ?_, fun hv => ?_⟩
        · -- z stands there already
          have zF : z ∈ F := by
            by_cases h : z ∈ F
            · exact h
            · rw [dk_none h] at hv; cases hv
          rw [dk_val zF] at hv
          obtain rfl := Option.some.inj hv
          obtain ⟨ys, e, m⟩ := G4.each z zF
          have gd : g z ≠ d := ne_of e G4.at_ (by intro z; cases z)
          have l5 : ys.length ≤ 63 := by
            rw [Paired.length m]
            refine Nat.le_trans (cellsOf_len _ _) (Nat.le_trans rows_few (Nat.le_trans (List.length_take_le' _ _) L.few))
          refine ⟨_, rfl, .inl ⟨rfl, _, SqL.of e⟩, _, rfl, g z, _, _, rfl, rfl, e, small1000 (by omega), ?_⟩
          have tf : TFr H4 (upd H4 (g z) (.lst (ys ++ [x1]))) := TFr.lst e
          refine ⟨fun b o hb => by rw [upd_ne (fun e => by rw [e, fg z zF] at hb; cases hb)]; exact s04 _ _ hb, ⟨F, g, ?_, by omega, fg, inj⟩, _, _, _, rfl⟩
          rw [rows]
          refine ⟨by rw [upd_ne gd.symm]; exact G4.at_, ⟨G.names.nd, fun y => by rw [G.names.mem]; exact (named_snoc.trans ⟨fun h => h.elim id fun e => e ▸ (G.names.mem z).mp zF, .inl⟩).symm⟩, fun y hy => ?_⟩
          show ∃ ys' : List V, _ ∧ Mks _ ys' (cellsOf (_ ++ [(c, z)]) y)
          rw [cellsOf_snoc]
          by_cases ey : y = z
          · subst ey
            exact ⟨ys ++ [x1], upd_same, by rw [if_pos rfl]; exact Paired.app (m.keep tf) (Paired.one (Tup.keep tf mc4))⟩
          · obtain ⟨ys', e', m'⟩ := G4.each y hy
            exact ⟨ys', by rw [upd_ne (fun q => ey (inj y hy z zF q))]; exact e', by rw [if_neg (fun q => ey q.symm), List.append_nil]; exact m'.keep tf⟩
        · -- z is new
          have zF : z ∉ F := fun h => by rw [dk_val h] at hv; cases hv
          have put : putK (dkOf F (refV g)) (Sum.inr z) (V.ref q) = dkOf (F ++ [z]) (refV fun y => if y = z then q else g y) := by
            rw [dk_new zF]
            refine dk_congr fun y _ => ?_
            show (if y = z then V.ref q else V.ref (g y)) = V.ref (if y = z then q else g y)
            by_cases e : y = z
            · rw [if_pos e, if_pos e]
            · rw [if_neg e, if_neg e]
          have e5 : (upd H4 d (HO.dK (putK (dkOf F (refV g)) (Sum.inr z) (V.ref q)))) d = some (.dK (dkOf (F ++ [z]) (refV fun y => if y = z then q else g y))) := upd_same.trans (congrArg (fun l => some (HO.dK l)) put)
          have q5 : (upd H4 d (HO.dK (putK (dkOf F (refV g)) (Sum.inr z) (V.ref q)))) q = some (.lst []) := by rw [upd_ne dq.symm]; exact eq4
          have n5 : ∀ b o, H4 b = some o → b ≠ d → (upd H4 d (HO.dK (putK (dkOf F (refV g)) (Sum.inr z) (V.ref q)))) b = some o := fun b o hb hn => by rw [upd_ne hn]; exact hb
          have tf5 : TFr H4 (upd H4 d (HO.dK (putK (dkOf F (refV g)) (Sum.inr z) (V.ref q)))) := fun b xs hb => n5 b _ hb (ne_of hb G4.at_ (by intro z; cases z))
          generalize upd H4 d (HO.dK (putK (dkOf F (refV g)) (Sum.inr z) (V.ref q))) = H5 at *
          refine ⟨_, rfl, .inl ⟨rfl, _, SqL.of q5⟩, _, rfl, q, _, _, rfl, rfl, q5, by decide, ?_⟩
          have tf6 : TFr H5 (upd H5 q (.lst ([] ++ [x1]))) := TFr.lst q5
          have gne : ∀ y ∈ F, g y ≠ q := fun y hy e => by
            obtain ⟨ys', e', _⟩ := G3.each y hy
            rw [e, hq] at e'; cases e'
          have gne' : ∀ y ∈ F, (if y = z then q else g y) = g y := fun y hy => if_neg fun e => zF (by rw [← e]; exact hy)
          refine ⟨fun b o hb => by rw [upd_ne (fun e => by rw [e, fq] at hb; cases hb)]; exact n5 b o (s04 _ _ hb) (fun e => by rw [e, hd] at hb; cases hb), ⟨F ++ [z], fun y => if y = z then q else g y, ?_, by rw [List.length_append]; exact Nat.succ_le_succ l2, fun y hy => ?_, fun y hy y' hy' e => ?_⟩, _, _, _, rfl⟩
          · rw [rows]
            refine ⟨by rw [upd_ne dq]; exact e5, ?_, fun y hy => ?_⟩
            · have := G.names.snoc (c := c) (z := z)
              unfold withZ at this
              rw [if_neg zF] at this
              exact this
            · show ∃ ys' : List V, _ ∧ Mks _ ys' (cellsOf (_ ++ [(c, z)]) y)
              rw [cellsOf_snoc]
              by_cases ey : y = z
              · subst ey
                have none_ : cellsOf (rowsOf (cells.take i) (fs.take i)) y = [] := by
                  cases q : cellsOf (rowsOf (cells.take i) (fs.take i)) y with
                  | nil => rfl
                  | cons c' r =>
                    have : c' ∈ cellsOf (rowsOf (cells.take i) (fs.take i)) y := by rw [q]; exact List.mem_cons_self
                    exact absurd ((G.names.mem y).mpr ⟨(c', y), cellsOf_mem.mp this, rfl⟩) zF
                refine ⟨[x1], ?_, ?_⟩
                · show (upd H5 q (.lst ([] ++ [x1]))) (if y = y then q else g y) = _
                  rw [if_pos rfl, upd_same]; rfl
                · rw [if_pos rfl, none_]
                  exact Paired.one (Tup.keep tf6 (Tup.keep tf5 mc4))
              · have yF : y ∈ F := (List.mem_append.mp hy).elim id fun h => absurd (List.mem_singleton.mp h) ey
                obtain ⟨ys', e', m'⟩ := G4.each y yF
                refine ⟨ys', ?_, ?_⟩
                · show (upd H5 q (.lst ([] ++ [x1]))) (if y = z then q else g y) = _
                  rw [gne' y yF, upd_ne (gne y yF)]
                  exact n5 _ _ e' (ne_of e' G4.at_ (by intro z; cases z))
                · rw [if_neg (fun q => ey q.symm), List.append_nil]
                  exact (m'.keep tf5).keep tf6
          · show H (if y = z then q else g y) = none
            by_cases ey : y = z
            · rw [if_pos ey]; exact fq
            · rw [if_neg ey]
              exact fg y ((List.mem_append.mp hy).elim id fun h => absurd (List.mem_singleton.mp h) ey)
          · have e : (if y = z then q else g y) = (if y' = z then q else g y') := e
            by_cases ey : y = z
            · by_cases ey' : y' = z
              · rw [ey, ey']
              · rw [if_pos ey, if_neg ey'] at e
                exact absurd e.symm (gne y' ((List.mem_append.mp hy').elim id fun h => absurd (List.mem_singleton.mp h) ey'))
            · have yF : y ∈ F := (List.mem_append.mp hy).elim id fun h => absurd (List.mem_singleton.mp h) ey
              by_cases ey' : y' = z
              · rw [if_neg ey, if_pos ey'] at e
                exact absurd e (gne y yF)
              · rw [if_neg ey, if_neg ey'] at e
                exact inj y yF y' ((List.mem_append.mp hy').elim id fun h => absurd (List.mem_singleton.mp h) ey') e
    · rintro σ H2 ⟨s2, ⟨F, g, G, l2, fg, inj⟩, o3, o4, o5, rfl⟩
      rw [ly, rows_none _ _ _ (Nat.le_refl _) (by rw [L.len]; exact Nat.le_refl _)] at G
      exact ⟨_, rfl, k d F g H2 G hd s2⟩
end
end Xci

namespace Xci
open PySem L2
/-- one form's free standing, as the law looks at it -/
theorem free_look {rows : List (List Int × Str)} {L : List Str} {z : Str} {ms : List Int} (hm : ∀ m, m ∈ ms ↔ ∀ c ∈ cellsOf rows z, m ∈ c) :
    ((L.filter fun o => decide (o ≠ z)).any fun o => (cellsOf rows o).any fun c => inside ms c) = L.any fun o => reachB rows z o := by
  rw [Bool.eq_iff_iff, List.any_eq_true, List.any_eq_true]
  constructor
  · rintro ⟨o, ho, q⟩
    obtain ⟨h1, h2⟩ := List.mem_filter.mp ho
    have ne := of_decide_eq_true h2
    obtain ⟨c, hc, w⟩ := List.any_eq_true.mp q
    refine ⟨o, h1, reachB_iff.mpr ⟨fun e => ne e.symm, (c, o), cellsOf_mem.mp hc, rfl, fun m hs => inside_mem w m ((hm m).mpr (shared0_cells.mp hs))⟩⟩
  · rintro ⟨o, ho, q⟩
    obtain ⟨ne, r, hr, e, w⟩ := reachB_iff.mp q
    refine ⟨o, List.mem_filter.mpr ⟨ho, decide_eq_true fun e => ne e.symm⟩, List.any_eq_true.mpr ⟨r.1, cellsOf_mem.mpr (by rw [← e]; exact hr), inside_of fun m hm' => w m (shared0_cells.mpr ((hm m).mp hm'))⟩⟩
theorem not_in_free {p : Str → Bool} {L : List Str} : (L.filter fun z => decide (z ∉ L.filter fun z => !p z)) = L.filter p := by
  refine List.filter_congr fun z hz => ?_
  rw [Bool.eq_iff_iff, decide_eq_true_iff, List.mem_filter]
  constructor
  · intro h
    cases q : p z with
    | true => rfl
    | false => exact absurd ⟨hz, by rw [q]; rfl⟩ h
  · rintro h ⟨_, q⟩
    rw [h] at q; cases q
theorem free_none {p : Str → Bool} {L : List Str} : (L.filter fun z => !p z).length = 0 ↔ (L.filter p).length = L.length := by
  have := filt_add p L
  omega
section
variable {P : Program} {w : World} {K : PySem.W.Frag} {mg : Str → Option Value} {base : Heap}
abbrev sLawRowMade : Stmt := top 46
theorem scLawRowMade : FnScope ["cells", "forms", "groups", "left", "stuck", "free", "form", "marks", "others", "other", "cell"] ["cells", "forms"] (defScope sLawRowMade) := ⟨rfl, rfl, rfl, by decide +kernel, rfl, by decide +kernel, by decide +kernel⟩
set_option maxHeartbeats 8000000 in
theorem ok_lawRowMade {f : Addr} {fd : FuncData} (F : Fun K "_law_row_made" "_law_row_made" sLawRowMade f fd) (T : Txt mg) (HLg : Has P w K mg base "_law_groups" ["cells", "forms"] 1 spLawGroups) (HLc : Has P w K mg base "_law_common" ["cells"] 1 spLawCommon) (HW : Has P w K mg base "_law_within" ["one", "other"] 1 spIn) : FnOk P w K mg base CX0 2 f fd ["cells", "forms"] spLawRowMade := by
  refine F.ok scLawRowMade (fun vs H Q E h => ?_) (fun cdv A outer s H vs Q E hr h => ?_)
  · obtain ⟨pc, pf, cy, cells, fs, rfl, _⟩ := h
    rfl
  · obtain ⟨pc, pf, cy, cells, fs, rfl, C, k⟩ := h
    refine ⟨_, (pss_cons (ps_set (i := 2) scLawRowMade.nd rfl (by first | exact Or.inl rfl | exact Or.inr rfl) (pe_callH HLg (hr.mono (by decide)) rfl (pa_cons (pv 0) (pa_cons (pv 1) pa_nil))))
      (pss_cons (ps_set (i := 3) scLawRowMade.nd rfl (by first | exact Or.inl rfl | exact Or.inr rfl) (pe_callB cr_sortedS rfl T.sorted (by decide +kernel) (pa_cons (pe_callTy (call_list_dK rfl) rfl T.list (by decide +kernel) (pa_cons (pv 2) pa_nil)) pa_nil)))
      (pss_cons (ps_set (i := 4) scLawRowMade.nd rfl (by first | exact Or.inl rfl | exact Or.inr rfl) pe_bl)
      (pss_cons (ps_while PassesOwn.never (PW.pt (pw_and (pt_cmpR op_gt (pe_callB call_len rfl T.len PySem.boot_len (pa_cons (pv 3) pa_nil)) pe_int (nomark _)) (pw_and1 (pt_not (pt_truth (pv 4) (fun _ => rfl)))))) (pss_cons (ps_set (i := 5) scLawRowMade.nd rfl (by first | exact Or.inl rfl | exact Or.inr rfl) (pe_lst pa_nil))
      (pss_cons (ps_for PassesOwn.never rfl (pi_list (pv 3)) (pg_name (i := 6) scLawRowMade.nd rfl (by first | exact Or.inl rfl | exact Or.inr rfl)) (pss_cons (ps_set (i := 7) scLawRowMade.nd rfl (by first | exact Or.inl rfl | exact Or.inr rfl) (pe_callH HLc (hr.mono (by decide)) rfl (pa_cons (pe_dget (hu1 hr) (pv 2) (pv 6) (fun _ _ => rfl)) pa_nil)))
      (pss_cons (ps_setLc (i := 8) (own := [("other", 9)]) rfl scLawRowMade.nd rfl rfl (sw_true rfl rfl rfl (by decide +kernel)) (pi_list (pv 3)) (blkOk_by (N := ["cells", "forms", "groups", "left", "stuck", "free", "form", "marks", "others", "other", "cell"]) (sc := defScope sLawRowMade) (by decide +kernel)) (fun _ _ _ _ _ => (pg_name (i := 9) scLawRowMade.nd rfl (by first | exact Or.inl rfl | exact Or.inr rfl))) (fun _ _ _ _ _ => pts_one (pt_cmpR op_ne (pv 9) (pv 6) (nomark _))) (fun _ _ _ _ _ => (pv 9)))
      (pss_one (ps_if (pt_not (pt_val (pe_callB (cr_any rfl) rfl T.any (by decide +kernel) (pa_cons (pe_lc (own := [("other", 9)]) rfl scLawRowMade.nd (pi_list (pv 8)) (blkOk_by (N := ["cells", "forms", "groups", "left", "stuck", "free", "form", "marks", "others", "other", "cell"]) (sc := defScope sLawRowMade) (by decide +kernel)) (fun _ _ _ _ _ => (pg_name (i := 9) scLawRowMade.nd rfl (by first | exact Or.inl rfl | exact Or.inr rfl))) (fun _ _ _ _ _ => pts_nil) (fun _ _ _ _ _ => (pe_callB (show CallR _ (.builtin "any") (rAny K) from cr_any rfl) rfl T.any (by decide +kernel) (pa_cons (pe_lc (own := [("cell", 10)]) rfl scLawRowMade.nd (show PI _ _ _ (iList K (tDGet (tVar 2) (tVar 9))) from pi_list (pe_dget (hu1 hr) (pv 2) (pv 9) (fun _ _ => rfl))) (show BlkOk ["cells", "forms", "groups", "left", "stuck", "free", "form", "marks", "others", "other", "cell"] (relS _ (defScope sLawRowMade)) _ _ from blkOk_by (by decide +kernel)) (fun _ _ _ _ _ => (pg_name (i := 10) scLawRowMade.nd rfl (by first | exact Or.inl rfl | exact Or.inr rfl))) (fun _ _ _ _ _ => pts_nil) (fun _ _ _ _ _ => (pe_callH HW (hr.mono (by decide)) rfl (pa_cons (pv 7) (pa_cons (pv 10) pa_nil))))) pa_nil)))) pa_nil)))) (pss_one (ps_expr (pe_bm PySem.F.plainAttrs_list PySem.F.slot_list_append PySem.F.type_list_append mt_append (pv 5) (pa_cons (pv 6) pa_nil)))) pss_nil)))))
      (pss_cons (ps_set (i := 4) scLawRowMade.nd rfl (by first | exact Or.inl rfl | exact Or.inr rfl) (pe_cmpR op_eq (pe_callB call_len rfl T.len PySem.boot_len (pa_cons (pv 5) pa_nil)) pe_int (nomark _)))
      (pss_one (ps_setLc (i := 3) (own := [("form", 6)]) rfl scLawRowMade.nd rfl rfl (sw_true rfl rfl rfl (by decide +kernel)) (pi_list (pv 3)) (blkOk_by (N := ["cells", "forms", "groups", "left", "stuck", "free", "form", "marks", "others", "other", "cell"]) (sc := defScope sLawRowMade) (by decide +kernel)) (fun _ _ _ _ _ => (pg_name (i := 6) scLawRowMade.nd rfl (by first | exact Or.inl rfl | exact Or.inr rfl))) (fun _ _ _ _ _ => pts_one (pt_cmpR (show OpR _ _ (rIn K true) from op_notIn_seq) (pv 6) (pv 5) (by with_unfolding_all rfl))) (fun _ _ _ _ _ => (pv 6))))))))
      (pss_one (ps_ret (pe_not (pv 4)))))))), ?_⟩
    refine ⟨_, rfl, _, rfl, pc, pf, cy, cells, fs, rfl, C, fun d F g H1 G nd s1 => ?_⟩
    have rok := rows_ok (fs := fs) C.ok
    have Fl : F.length ≤ 63 := Nat.le_trans G.names.len C.few
    have due := made_row G.names.nd G.names.mem (n := 64) (by omega)
    have rlen : (rowsOf cells fs).length ≤ 63 := Nat.le_trans rows_few C.few
    generalize rowsOf cells fs = rows at *
    refine ⟨_, rfl, d, _, rfl, G.at_, fun l0 hl0 => ?_⟩
    rw [dk_fst]
    have sA : Same H1 (upd H1 l0 (.lst (F.map V.str))) := Same.new hl0
    have el0 : (upd H1 l0 (.lst (F.map V.str))) l0 = some (.lst (F.map V.str)) := upd_same
    have GA := G.same sA
    generalize upd H1 l0 (.lst (F.map V.str)) = H2 at *
    dsimp only [tNil]
    refine ⟨l0, F, rfl, SqL.of el0, by omega, fun F' p perm _ hp => ?_⟩
    have sB : Same H2 (upd H2 p (.lst (F'.map V.str))) := Same.new hp
    have ep : (upd H2 p (.lst (F'.map V.str))) p = some (.lst (F'.map V.str)) := upd_same
    have GB := GA.same sB
    have sAB := s1.trans (sA.trans sB)
    generalize upd H2 p (.lst (F'.map V.str)) = H3 at *
    refine ⟨fun m σ H4 => ∃ (la : Addr) (L : List Str) (b : Bool) (o5 o6 o7 o8 o9 o10 : Option V), Groups H4 d rows F g ∧ H4 la = some (.lst (L.map V.str)) ∧ Same H H4 ∧ L.Nodup ∧ (∀ z ∈ L, z ∈ F) ∧ L.length ≤ 63 ∧ (b = false → stand (reachB rows) 64 L = madeB "row" rows) ∧ (b = true → madeB "row" rows = false) ∧ m = 2 * L.length + (if b = true then 0 else 1) ∧ σ = [some (.ref pc), some (.ref pf), some (.ref d), some (.ref la), some (.bl b), o5, o6, o7, o8, o9, o10],
      ⟨_, p, F', false, _, _, _, _, _, _, GB, ep, sAB, perm.nodup_iff.mpr G.names.nd, fun z hz => perm.mem_iff.mp hz, by rw [perm.length_eq]; exact Fl, fun _ => by rw [stand_perm _ _ perm]; exact due.symm, nofun, rfl, rfl⟩, ?_⟩
    rintro m σ H4 ⟨la, L, b, o5, o6, o7, o8, o9, o10, G4, ela, s4, lnd, sub, ll, stf, stt, rfl, rfl⟩
    refine ⟨_, rfl, _, _, rfl, .inl ⟨_, SqL.of ela, rfl⟩, _, _, rfl, rfl, _, rfl, ?_⟩
    have fin : ∀ H', Same H H' → (b = true ∨ L = []) → Q (.bl (!b)) H' := fun H' s' h => by
      have := k H' s'
      cases b with
      | true => rw [stt rfl] at this; exact this
      | false =>
        rcases h with h | h
        · cases h
        · rw [← stf rfl, h, stand_nil] at this; exact this
    by_cases le : L = []
    · subst le
      refine iteF ?_
      exact ⟨_, rfl, _, rfl, fin H4 s4 (.inr rfl)⟩
    have pos : 0 < L.length := List.length_pos_iff.mpr le
    rw [decide_eq_true (by rw [List.length_map]; omega)]
    refine iteT ⟨_, rfl, b, rfl, ?_⟩
    cases b with
    | true => exact iteF ⟨_, rfl, _, rfl, fin H4 s4 (.inl rfl)⟩
    | false =>
    have stf := stf rfl
    clear stt fin
    refine iteT ⟨fun σ' H' => ∃ m', m' < 2 * L.length + (if false = true then 0 else 1) ∧ _, fun _ _ h => h, ?_⟩
    refine ⟨Nat.zero_le _, fun fr hfr => ?_⟩
    have s5 : Same H4 (upd H4 fr (.lst [])) := Same.new hfr
    have efr : (upd H4 fr (.lst [])) fr = some (.lst []) := upd_same
    have nfr : la ≠ fr := ne_of_none ela hfr
    have ffr : H fr = none := by
      cases e : H fr with
      | none => rfl
      | some u => have := s4 _ _ e; rw [hfr] at this; cases this
    have G5 := G4.same s5
    have ela5 := s5 _ _ ela
    have s05 := s4.trans s5
    have gfr : ∀ z ∈ F, g z ≠ fr := fun z hz => by
      obtain ⟨ys, e, _⟩ := G4.each z hz
      exact ne_of_none e hfr
    have dfr : d ≠ fr := ne_of_none G4.at_ hfr
    generalize upd H4 fr (.lst []) = H5 at *
    clear G4 ela s4 s5
    refine ⟨_, rfl, la, rfl, ⟨_, SqL.of ela5⟩, ?_⟩
    refine for_list (K := K) (a := la) (xs := L.map V.str) (fun i σ H6 => ∃ o6 o7 o8 o9 o10 : Option V, Groups H6 d rows F g ∧ H6 la = some (.lst (L.map V.str)) ∧ Same H H6 ∧ H6 fr = some (.lst (((L.take i).filter fun z => !L.any fun o => reachB rows z o).map V.str)) ∧ σ = [some (.ref pc), some (.ref pf), some (.ref d), some (.ref la), some (.bl false), some (.ref fr), o6, o7, o8, o9, o10])
      ⟨_, _, _, _, _, G5, ela5, s05, efr, rfl⟩ (fun i σ H6 _ ⟨_, _, _, _, _, _, e, _⟩ => SqL.of e) ?_ ?_
    · rintro i v σ H6 hi ⟨o6, o7, o8, o9, o10, G6, ela6, s6, efr6, rfl⟩
      rw [List.getElem?_map] at hi
      obtain ⟨z, hz, rfl⟩ := Option.map_eq_some_iff.mp hi
      have zL := List.mem_of_getElem? hz
      have zF := sub z zL
      obtain ⟨ys, eys, mys⟩ := G6.each z zF
      have cne : cellsOf rows z ≠ [] := by
        obtain ⟨r, hr, e⟩ := (G.names.mem z).mp zF
        have : r.1 ∈ cellsOf rows z := cellsOf_mem.mpr (by rw [← e]; exact hr)
        intro q
        rw [q] at this; cases this
      refine ⟨_, rfl, _, rfl, d, _, rfl, dk_get G6.at_ zF, g z, ys, cellsOf rows z, rfl, eys, mys, cne, fun c hc => rok _ (cellsOf_mem.mp hc), Nat.le_trans (cellsOf_len _ _) (by omega), fun pm ms H7 epm mok hm s7 => ?_⟩
      have G7 := G6.same s7
      have ela7 := s7 _ _ ela6
      have efr7 := s7 _ _ efr6
      have s07 := s6.trans s7
      clear G6 ela6 efr6 s6 eys mys ys
      refine ⟨_, rfl, la, rfl, ⟨_, SqL.of ela7⟩, fun D hD => ?_⟩
      refine lc_list (K := K) (a := la) (xs := L.map V.str) (fun j H8 => Same H7 H8 ∧ H8 D = some (.lst (((L.take j).filter fun o => decide (o ≠ z)).map V.str))) ⟨Same.new hD, upd_same⟩ (fun j H8 _ ⟨e, _⟩ => SqL.of (e _ _ ela7)) ?_ ?_
      · rintro j v H8 hj ⟨s8, e8⟩
        rw [List.getElem?_map] at hj
        obtain ⟨o, ho, rfl⟩ := Option.map_eq_some_iff.mp hj
        have nx : (L.take (j + 1)).filter (fun o => decide (o ≠ z)) = (L.take j).filter (fun o => decide (o ≠ z)) ++ if decide (o ≠ z) = true then [o] else [] := by
          rw [List.take_add_one, ho, List.filter_append]
          show _ ++ [o].filter _ = _
          rw [filter_one]
        refine ⟨rfl, _, rfl, _, rfl, rfl, _, rfl, ?_⟩
        by_cases e : o = z
        · have q : (!decide (V.str o = V.str z)) = false := by rw [e]; simp
          rw [q]
          exact iteF ⟨s8, by rw [nx, if_neg (by rw [decide_eq_false fun h => h e]; exact Bool.false_ne_true), List.append_nil]; exact e8⟩
        · have q : (!decide (V.str o = V.str z)) = true := by rw [decide_eq_false fun h => e (V.str.inj h)]; rfl
          rw [q]
          refine iteT ⟨_, rfl, _, e8, ?_, fun b o hb => by rw [upd_ne (ne_of_none hb hD)]; exact s8 _ _ hb, ?_⟩
          · rw [List.length_map]
            exact small1000 (Nat.le_trans (List.length_filter_le _ _) (Nat.le_trans (List.length_take_le' _ _) (by omega)))
          · rw [upd_same, nx, if_pos (decide_eq_true e), List.map_append]; rfl
      rintro H8 ⟨s8, e8⟩
      rw [List.length_map, List.take_length] at e8
      have G8 := G7.same s8
      have ela8 := s8 _ _ ela7
      have efr8 := s8 _ _ efr7
      have epm8 := s8 _ _ epm
      have s08 := s07.trans s8
      clear G7 ela7 efr7 s07 epm
      refine ⟨_, rfl, D, rfl, ⟨_, SqL.of e8⟩, fun D2 hD2 => ?_⟩
      refine lc_list (K := K) (a := D) (xs := (L.filter fun o => decide (o ≠ z)).map V.str) (fun j H9 => Same H8 H9 ∧ H9 D2 = some (.lst ((((L.filter fun o => decide (o ≠ z)).take j).map fun o => (cellsOf rows o).any fun c => inside ms c).map V.bl))) ⟨Same.new hD2, upd_same⟩ (fun j H9 _ ⟨e, _⟩ => SqL.of (e _ _ e8)) ?_ ?_
      · rintro j v H9 hj ⟨s9, e9⟩
        rw [List.getElem?_map] at hj
        obtain ⟨o, ho, rfl⟩ := Option.map_eq_some_iff.mp hj
        have oF := sub o (List.mem_filter.mp (List.mem_of_getElem? ho)).1
        have G9 := G8.same s9
        obtain ⟨yo, eyo, myo⟩ := G9.each o oF
        have lyo : yo.length ≤ 63 := by rw [Paired.length myo]; exact Nat.le_trans (cellsOf_len _ _) rlen
        refine ⟨rfl, _, rfl, _, rfl, d, _, rfl, dk_get G9.at_ oF, g o, rfl, ⟨_, SqL.of eyo⟩, fun D3 hD3 => ?_⟩
        refine lc_list (K := K) (a := g o) (xs := yo) (fun i H10 => Same H9 H10 ∧ H10 D3 = some (.lst ((((cellsOf rows o).take i).map fun c => inside ms c).map V.bl))) ⟨Same.new hD3, upd_same⟩ (fun i H10 _ ⟨e, _⟩ => SqL.of (e _ _ eyo)) ?_ ?_
        · rintro i' v H10 hi' ⟨s10, e10⟩
          obtain ⟨c, ec, mc⟩ := Paired.get (myo.keep (TFr.same s10)) hi'
          have s810 := s9.trans s10
          refine ⟨rfl, _, rfl, _, rfl, .ref pm, v, ms, c, rfl, ⟨pm, rfl, s810 _ _ epm8⟩, mc, Nat.le_trans mok.len (by decide), fun H11 s11 => ⟨_, s11 _ _ e10, ?_, fun b o hb => by rw [upd_ne (ne_of_none hb hD3)]; exact s11 _ _ (s10 _ _ hb), ?_⟩⟩
          · rw [List.length_map, List.length_map]
            exact small1000 (Nat.le_trans (List.length_take_le' _ _) (by have := cellsOf_len rows o; omega))
          · rw [upd_same, List.take_add_one, ec, List.map_append, List.map_append]; rfl
        rintro H10 ⟨s10, e10⟩
        rw [Paired.length myo, List.take_length] at e10
        refine ⟨D3, _, rfl, SqL.of e10, ?_⟩
        refine ⟨_, s10 _ _ e9, ?_, fun b o hb => by rw [upd_ne (ne_of_none hb hD2)]; exact s10 _ _ (s9 _ _ hb), ?_⟩
        · rw [List.length_map, List.length_map]
          exact small1000 (Nat.le_trans (List.length_take_le' _ _) (Nat.le_trans (List.length_filter_le _ _) (by omega)))
        · rw [upd_same, List.take_add_one, ho, List.map_append, List.map_append, List.any_map]; rfl
      rintro H9 ⟨s9, e9⟩
      rw [List.length_map, List.take_length] at e9
      refine ⟨D2, _, rfl, SqL.of e9, _, rfl, ?_⟩
      rw [List.any_map]
      have val : ((L.filter fun o => decide (o ≠ z)).any (id ∘ fun o => (cellsOf rows o).any fun c => inside ms c)) = L.any fun o => reachB rows z o := free_look hm
      rw [val]
      have G9 := G8.same s9
      have ela9 := s9 _ _ ela8
      have efr9 := s9 _ _ efr8
      have s09 := s08.trans s9
      have nx : (L.take (i + 1)).filter (fun z => !L.any fun o => reachB rows z o) = (L.take i).filter (fun z => !L.any fun o => reachB rows z o) ++ if (!L.any fun o => reachB rows z o) = true then [z] else [] := by
        rw [List.take_add_one, hz, List.filter_append]
        show _ ++ [z].filter _ = _
        rw [filter_one]
      refine ite2 (fun h => ?_) (fun h => ?_)
      · refine ⟨_, rfl, .inl ⟨rfl, _, SqL.of efr9⟩, _, rfl, fr, _, _, rfl, rfl, efr9, ?_, _, _, _, _, _, ?_, ?_, ?_, ?_, rfl⟩
        · rw [List.length_map]
          exact small1000 (Nat.le_trans (List.length_filter_le _ _) (Nat.le_trans (List.length_take_le' _ _) (by omega)))
        · refine ⟨by rw [upd_ne dfr]; exact G9.at_, G9.names, fun y hy => ?_⟩
          obtain ⟨ys, e, m⟩ := G9.each y hy
          exact ⟨ys, by rw [upd_ne (gfr y hy)]; exact e, m.keep (TFr.lst efr9)⟩
        · rw [upd_ne nfr]; exact ela9
        · exact fun b o hb => by rw [upd_ne (ne_of_none hb ffr)]; exact s09 _ _ hb
        · rw [upd_same, nx, if_pos h, List.map_append]; rfl
      · exact ⟨_, _, _, _, _, G9, ela9, s09, by rw [nx, if_neg h, List.append_nil]; exact efr9, rfl⟩
    rintro σ H6 ⟨o6, o7, o8, o9, o10, G6, ela6, s6, efr6, rfl⟩
    rw [List.length_map, List.take_length] at efr6
    have flen := List.length_filter_le (fun z => !L.any fun o => reachB rows z o) L
    have fl : ∀ y : Str, flatV (V.str y) = true := fun y => rfl
    refine ⟨_, rfl, _, _, rfl, .inl ⟨_, SqL.of efr6, rfl⟩, rfl, ?_⟩
    refine ⟨_, rfl, la, rfl, ⟨_, SqL.of ela6⟩, fun D hD => ?_⟩
    refine lc_list (K := K) (a := la) (xs := L.map V.str) (fun j H8 => Same H6 H8 ∧ H8 D = some (.lst (((L.take j).filter fun z => decide (z ∉ L.filter fun z => !L.any fun o => reachB rows z o)).map V.str))) ⟨Same.new hD, upd_same⟩ (fun j H8 _ ⟨e, _⟩ => SqL.of (e _ _ ela6)) ?_ ?_
    · rintro j v H8 hj ⟨s8, e8⟩
      rw [List.getElem?_map] at hj
      obtain ⟨z, hz, rfl⟩ := Option.map_eq_some_iff.mp hj
      have nx : (L.take (j + 1)).filter (fun z => decide (z ∉ L.filter fun z => !L.any fun o => reachB rows z o)) = (L.take j).filter (fun z => decide (z ∉ L.filter fun z => !L.any fun o => reachB rows z o)) ++ if decide (z ∉ L.filter fun z => !L.any fun o => reachB rows z o) = true then [z] else [] := by
        rw [List.take_add_one, hz, List.filter_append]
        show _ ++ [z].filter _ = _
        rw [filter_one]
      refine ⟨rfl, _, rfl, _, rfl, fr, _, rfl, .inl (SqL.of (s8 _ _ efr6)), rfl, flat_strs _, _, rfl, ?_⟩
      show (if (!inV (.str z) ((L.filter fun z => !L.any fun o => reachB rows z o).map V.str)) = true then _ else _)
      rw [inV_str]
      have e : (!decide (z ∈ L.filter fun z => !L.any fun o => reachB rows z o)) = decide (z ∉ L.filter fun z => !L.any fun o => reachB rows z o) := by rw [decide_not]
      rw [e]
      refine ite2 (fun h => ?_) (fun h => ?_)
      · refine ⟨_, rfl, _, e8, ?_, fun b o hb => by rw [upd_ne (ne_of_none hb hD)]; exact s8 _ _ hb, ?_⟩
        · rw [List.length_map]
          exact small1000 (Nat.le_trans (List.length_filter_le _ _) (Nat.le_trans (List.length_take_le' _ _) (by omega)))
        · rw [upd_same, nx, if_pos h, List.map_append]; rfl
      · exact ⟨s8, by rw [nx, if_neg h, List.append_nil]; exact e8⟩
    rintro H8 ⟨s8, e8⟩
    rw [List.length_map, List.take_length, not_in_free] at e8
    have step := stand_step (reachB rows) (n := 64) (by omega) le
    have none_ := free_none (p := fun z => L.any fun o => reachB rows z o) (L := L)
    have le2 := List.length_filter_le (fun z => L.any fun o => reachB rows z o) L
    have vb : decide (V.int (((L.filter fun z => !L.any fun o => reachB rows z o).map V.str).length : Nat) = V.int 0) = decide ((L.filter fun z => !L.any fun o => reachB rows z o).length = 0) := by
      rw [List.length_map, decide_eq_decide, V.int.injEq]; omega
    refine ⟨2 * (L.filter fun z => L.any fun o => reachB rows z o).length + (if decide ((L.filter fun z => !L.any fun o => reachB rows z o).length = 0) = true then 0 else 1), ?_, D, _, decide ((L.filter fun z => !L.any fun o => reachB rows z o).length = 0), some (.ref fr), o6, o7, o8, o9, o10, G6.same s8, e8, s6.trans s8, lnd.sublist List.filter_sublist, fun z hz => sub z (List.mem_filter.mp hz).1, by omega, fun h => ?_, fun h => ?_, rfl, ?_⟩
    · rw [if_neg (show ¬ (false = true) by decide)]
      by_cases h : (L.filter fun z => !L.any fun o => reachB rows z o).length = 0
      · rw [if_pos (decide_eq_true h)]; omega
      · rw [if_neg (by rw [decide_eq_false h]; exact Bool.false_ne_true)]
        have : ¬ (L.filter fun z => L.any fun o => reachB rows z o).length = L.length := fun q => h (none_.mpr q)
        omega
    · have h := of_decide_eq_false h
      rw [if_neg (fun q => h (none_.mpr q)), stf] at step
      exact step.symm
    · have h := of_decide_eq_true h
      rw [if_pos (none_.mp h), stf] at step
      exact step
    · rw [← vb]; rfl
end
end Xci

namespace Xci
open PySem L2
open Classical in
theorem reachB_iff' {rows : List (List Int × Str)} {y z : Str} : reachB rows y z = true ↔ Reach rows y z := by
  unfold reachB
  exact decide_eq_true_iff
/-! what is made is made with a cell open, too -/
def Trap {α : Type} (R : α → α → Bool) (S : List α) : Prop := S ≠ [] ∧ ∀ z ∈ S, ∃ o ∈ S, R z o = true
theorem stand_trap {α : Type} [DecidableEq α] (R : α → α → Bool) : ∀ (n : Nat) (L : List α), L.length ≤ n → (stand R n L = true ↔ ∀ S : List α, (∀ z ∈ S, z ∈ L) → ¬ Trap R S)
  | 0, L, h => by
    have : L = [] := List.length_eq_zero_iff.mp (by omega)
    subst this
    refine ⟨fun _ S sub t => t.1 ?_, fun _ => rfl⟩
    cases S with
    | nil => rfl
    | cons a r => exact absurd (sub a List.mem_cons_self) (by simp)
  | n + 1, L, h => by
    show (if L = [] then true else if _ then false else _) = true ↔ _
    by_cases e : L = []
    · subst e
      rw [if_pos rfl]
      refine ⟨fun _ S sub t => t.1 ?_, fun _ => rfl⟩
      cases S with
      | nil => rfl
      | cons a r => exact absurd (sub a List.mem_cons_self) (by simp)
    rw [if_neg e]
    have le := List.length_filter_le (fun z => L.any fun o => R z o) L
    by_cases q : (L.filter fun z => L.any fun o => R z o).length = L.length
    · rw [if_pos q]
      constructor
      · intro h
        cases h
      · intro no
        have t : Trap R L := ⟨e, fun z hz => by
          have all := List.length_filter_eq_length_iff.mp q
          obtain ⟨o, ho, r⟩ := List.any_eq_true.mp (all z hz)
          exact ⟨o, ho, r⟩⟩
        exact absurd t (no L fun z h => h)
    · rw [if_neg q, stand_trap R n _ (by omega)]
      constructor
      · intro no S sub t
        refine no S (fun z hz => List.mem_filter.mpr ⟨sub z hz, ?_⟩) t
        obtain ⟨o, ho, r⟩ := t.2 z hz
        exact List.any_eq_true.mpr ⟨o, sub o ho, r⟩
      · intro no S sub t
        exact no S (fun z hz => (List.mem_filter.mp (sub z hz)).1) t
theorem names_of (rows : List (List Int × Str)) : Names rows (rows.map (·.2)).eraseDups :=
  ⟨nodup_dups _ _ (Nat.le_refl _), fun z => by
    rw [List.mem_eraseDups, List.mem_map]
    exact ⟨fun ⟨r, hr, e⟩ => ⟨r, hr, e⟩, fun ⟨r, hr, e⟩ => ⟨r, hr, e⟩⟩⟩
/-- the greatest still marks -/
theorem some_end (rows : List (List Int × Str)) : ∃ h : Str → Int → Prop, Under rows h ∧ Still rows h := by
  refine ⟨fun z m => ∃ g : Str → Int → Prop, Still rows g ∧ (∀ z, Named rows z → ∀ m, g z m → Shared0 rows z m) ∧ g z m, ⟨fun z n m ⟨g, _, b, q⟩ => b z n m q, fun g st b z n m q => ⟨g, st, b, q⟩⟩, fun z n r hr w m ⟨g, st, b, q⟩ => ⟨g, st, b, st z n r hr (fun k hk => w k ⟨g, st, b, hk⟩) m q⟩⟩
open Classical in
theorem made_less {rows rows' : List (List Int × Str)} {man : Str} (sub : ∀ r ∈ rows, r ∈ rows') (nm : ∀ z, Named rows' z → Named rows z) (h : madeB man rows' = true) : madeB man rows = true := by
  have low : ∀ z m, Shared0 rows' z m → Shared0 rows z m := fun z m q r hr e => q r (sub r hr) e
  have nm' : ∀ z, Named rows z → Named rows' z := fun z ⟨r, hr, e⟩ => ⟨r, sub r hr, e⟩
  by_cases e : man = "row"
  · subst e
    have N := names_of rows
    have N' := names_of rows'
    rw [made_row N.nd N.mem (Nat.le_refl _), stand_trap _ _ _ (Nat.le_refl _)]
    rw [made_row N'.nd N'.mem (Nat.le_refl _), stand_trap _ _ _ (Nat.le_refl _)] at h
    refine fun S sb t => h S (fun z hz => (N'.mem z).mpr (nm' z ((N.mem z).mp (sb z hz)))) ⟨t.1, fun z hz => ?_⟩
    obtain ⟨o, ho, q⟩ := t.2 z hz
    obtain ⟨ne, r, hr, er, w⟩ := reachB_iff'.mp q
    exact ⟨o, ho, reachB_iff'.mpr ⟨ne, r, sub r hr, er, fun m hm => w m (low z m hm)⟩⟩
  · unfold madeB at h ⊢
    rw [if_neg e, decide_eq_true_iff] at h ⊢
    obtain ⟨g, U', S', A⟩ := h
    obtain ⟨f, U, S⟩ := some_end rows
    refine ⟨f, U, S, fun y z ny nz eq => ?_⟩
    have gf := U.top g (fun z n r hr w m q => S' z (nm' z n) r (sub r hr) w m q) fun z n m q => low z m (U'.low z (nm' z n) m q)
    have half : ∀ y z, Named rows y → Named rows z → (∀ m, f y m ↔ f z m) → ∀ m, g z m → g y m := fun y z ny nz eq m q => by
      obtain ⟨r, hr, er⟩ := ny
      have := S' z (nm' z nz) r (sub r hr) (fun k hk => U.low y ⟨r, hr, er⟩ k ((eq k).mpr (gf z nz k hk)) r hr er) m q
      rw [er] at this
      exact this
    exact A y z (nm' y ny) (nm' z nz) fun m => ⟨half z y nz ny (fun k => (eq k).symm) m, half y z ny nz eq m⟩
end Xci

namespace Xci
open PySem L2
/-! ### a table is made just where some plain book of lots speaks its forms -/
def fitsE (es : List Ent) (c : List Int) : List Ent := es.filter fun e => inside e.1 c
/-- the entries with marks strictly within e's -/
def lessE (fs : List Ent) (e : Ent) : List Ent := fs.filter fun o => inside o.1 e.1 && decide (o.1 ≠ e.1)
def topE (fs : List Ent) : Option Ent := fs.find? fun e => decide ((lessE fs e).length + 1 = fs.length)
def speaksX (man : Str) (es : List Ent) (c : List Int) : Option Str := if man = "row" then (fitsE es c).head?.map (·.2) else (topE (fitsE es c)).map (·.2)
/-- rows of entries, an entry for each name, lots from every -/
def IsBook (F : List Str) (every : List (List Int)) (bs : List Ent) : Prop := bs.map (·.2) = F ∧ ∀ e ∈ bs, e.1 ∈ every
def IsOrder (bs row : List Ent) : Prop := row.Nodup ∧ row.length = bs.length ∧ ∀ e ∈ row, e ∈ bs
def Speaks (man : Str) (rows : List (List Int × Str)) (es : List Ent) : Prop := ∀ r ∈ rows, speaksX man es r.1 = some r.2
theorem lots_of {ns ms : List Int} : ms.Sublist ns → ms ∈ lots ns := by
  refine snoc_ind (M := fun ns => ∀ ms : List Int, ms.Sublist ns → ms ∈ lots ns) (fun ms h => ?_) (fun l x ih ms h => ?_) ns ms
  · rw [List.sublist_nil.mp h]; exact List.mem_singleton.mpr rfl
  · rw [lots_snoc]
    obtain ⟨a, b, rfl, ha, hb⟩ := List.sublist_append_iff.mp h
    rcases List.sublist_cons_iff.mp hb with hb | ⟨r, rfl, hr⟩
    · rw [List.sublist_nil.mp hb, List.append_nil]
      exact List.mem_append_left _ (ih a ha)
    · rw [List.sublist_nil.mp hr]
      exact List.mem_append_right _ (List.mem_map.mpr ⟨a, ih a ha, rfl⟩)
theorem first_of {α : Type} {p : α → Prop} : ∀ {l : List α}, (∃ x ∈ l, p x) → ∃ l1 x l2, l = l1 ++ x :: l2 ∧ p x ∧ ∀ y ∈ l1, ¬ p y
  | [], ⟨_, h, _⟩ => by cases h
  | a :: r, h => by
    by_cases pa : p a
    · exact ⟨[], a, r, rfl, pa, nofun⟩
    · have : ∃ x ∈ r, p x := by
        obtain ⟨x, hx, px⟩ := h
        rcases List.mem_cons.mp hx with e | hx
        · exact absurd (e ▸ px) pa
        · exact ⟨x, hx, px⟩
      obtain ⟨l1, x, l2, rfl, px, no⟩ := first_of this
      exact ⟨a :: l1, x, l2, rfl, px, fun y hy => (List.mem_cons.mp hy).elim (fun e => e ▸ pa) (no y)⟩
/-- names that can stand in a row, in an order -/
theorem order_ex {R : Str → Str → Bool} : ∀ (n : Nat) (L : List Str), L.length = n → L.Nodup → (∀ S : List Str, (∀ z ∈ S, z ∈ L) → ¬ Trap R S) → ∃ L' : List Str, L'.Perm L ∧ L'.Pairwise fun y z => R y z = false
  | 0, L, h, _, _ => ⟨[], by rw [List.length_eq_zero_iff.mp h], .nil⟩
  | n + 1, L, h, nd, no => by
    have ne : L ≠ [] := fun e => by rw [e] at h; cases h
    obtain ⟨z, hz, free⟩ : ∃ z ∈ L, ∀ o ∈ L, R z o = false := by
      apply Classical.byContradiction
      intro q
      refine no L (fun z h => h) ⟨ne, fun z hz => ?_⟩
      apply Classical.byContradiction
      intro q2
      exact q ⟨z, hz, fun o ho => by
        cases e : R z o with
        | false => rfl
        | true => exact absurd ⟨o, ho, e⟩ q2⟩
    have le : (L.erase z).length = n := by rw [List.length_erase_of_mem hz, h]; rfl
    obtain ⟨L', p, pw⟩ := order_ex n (L.erase z) le (nd.erase z) fun S sub => no S fun y hy => List.mem_of_mem_erase (sub y hy)
    exact ⟨z :: L', (List.perm_cons_erase hz).symm.trans (.refl _) |> fun q => (p.cons z).trans q, List.pairwise_cons.mpr ⟨fun y hy => free y (List.mem_of_mem_erase (p.subset hy)), pw⟩⟩
section
variable {rows : List (List Int × Str)} {F : List Str} {n : Int} {every : List (List Int)}
open Classical in
noncomputable def lotOf (n : Int) (h : Str → Int → Prop) (z : Str) : List Int := (rng n).filter fun m => decide (h z m)
open Classical in
theorem lotOf_mem {h : Str → Int → Prop} {z : Str} {m : Int} (b : ∀ m, h z m → m ∈ rng n) : m ∈ lotOf n h z ↔ h z m := by
  unfold lotOf
  rw [List.mem_filter, decide_eq_true_iff]
  exact ⟨fun q => q.2, fun q => ⟨b m q, q⟩⟩
theorem lotOf_in (ev : ∀ l, l ∈ lots (rng n) → l ∈ every) (h : Str → Int → Prop) (z : Str) : lotOf n h z ∈ every := ev _ (lots_of List.filter_sublist)
noncomputable def bookOf (n : Int) (h : Str → Int → Prop) (L : List Str) : List Ent := L.map fun z => (lotOf n h z, z)
theorem bookOf_is (ev : ∀ l, l ∈ lots (rng n) → l ∈ every) (h : Str → Int → Prop) (F : List Str) : IsBook F every (bookOf n h F) := by
  refine ⟨?_, fun e he => ?_⟩
  · unfold bookOf
    rw [List.map_map]
    exact List.map_id F
  · obtain ⟨z, _, rfl⟩ := List.mem_map.mp he
    exact lotOf_in ev h z
theorem nodup_snd {es : List Ent} (h : (es.map (·.2)).Nodup) : es.Nodup := List.Pairwise.of_map (·.2) (fun a b ne e => ne (by rw [e])) h
theorem one_name {es : List Ent} (h : (es.map (·.2)).Nodup) {a b : Ent} (ha : a ∈ es) (hb : b ∈ es) (e : a.2 = b.2) : a = b := by
  induction es with
  | nil => cases ha
  | cons x r ih =>
    rw [List.map_cons, List.nodup_cons] at h
    rcases List.mem_cons.mp ha with q | q <;> rcases List.mem_cons.mp hb with q' | q'
    · rw [q, q']
    · exact absurd (List.mem_map.mpr ⟨b, q', by rw [← e, q]⟩) h.1
    · exact absurd (List.mem_map.mpr ⟨a, q, by rw [e, q']⟩) h.1
    · exact ih h.2 q q'
theorem find_nth {α : Type} {B : α → Bool} : ∀ {cs : List α} {i : Nat} {r : α}, cs[i]? = some r → B r = true → (∀ i' < i, ∀ r', cs[i']? = some r' → B r' = false) → cs.find? B = some r
  | [], _, _, h, _, _ => by cases h
  | x :: t, 0, r, h, hb, _ => by
    obtain rfl : x = r := Option.some.inj h
    rw [List.find?_cons_of_pos hb]
  | x :: t, i + 1, r, h, hb, no => by
    rw [List.find?_cons_of_neg (by rw [no 0 (Nat.zero_lt_succ _) x rfl]; decide)]
    exact find_nth (i := i) h hb fun i' hi' r' h' => no (i' + 1) (by omega) r' h'
theorem find_no {α : Type} {B : α → Bool} {cs : List α} (no : ∀ (i : Nat) (r : α), cs[i]? = some r → B r = false) : cs.find? B = none := by
  rw [List.find?_eq_none]
  intro x hx
  obtain ⟨i, hi⟩ := List.mem_iff_getElem?.mp hx
  rw [no i x hi]; decide
/-! in a row -/
theorem row_of_made (N : Names rows F) (cl : ∀ r ∈ rows, ∀ m ∈ r.1, m ∈ rng n) (made : madeB "row" rows = true) (ev : ∀ l, l ∈ lots (rng n) → l ∈ every) :
    ∃ bs row, IsBook F every bs ∧ IsOrder bs row ∧ Speaks "row" rows row := by
  rw [made_row N.nd N.mem (Nat.le_refl _), stand_trap _ _ _ (Nat.le_refl _)] at made
  obtain ⟨L, pL, pw⟩ := order_ex _ F rfl N.nd made
  have b : ∀ z, Named rows z → ∀ m, Shared0 rows z m → m ∈ rng n := fun z ⟨r, hr, e⟩ m q => cl r hr m (q r hr e)
  have ndL : L.Nodup := pL.nodup_iff.mpr N.nd
  have inj : ∀ a b : Str, (lotOf n (Shared0 rows) a, a) = (lotOf n (Shared0 rows) b, b) → a = b := fun a b e => congrArg (·.2) e
  refine ⟨bookOf n (Shared0 rows) F, bookOf n (Shared0 rows) L, bookOf_is ev _ F, ⟨List.Pairwise.map _ (fun a b ne e => ne (inj a b e)) ndL, by unfold bookOf; rw [List.length_map, List.length_map]; exact pL.length_eq, fun e he => ?_⟩, fun r hr => ?_⟩
  · obtain ⟨z, hz, rfl⟩ := List.mem_map.mp he
    exact List.mem_map.mpr ⟨z, pL.subset hz, rfl⟩
  · have nz : Named rows r.2 := ⟨r, hr, rfl⟩
    obtain ⟨L1, L2, e⟩ := List.append_of_mem (pL.mem_iff.mpr ((N.mem _).mpr nz))
    have own : inside (lotOf n (Shared0 rows) r.2) r.1 = true := inside_of fun m hm => (lotOf_mem (b _ nz)).mp hm r hr rfl
    have none1 : fitsE (bookOf n (Shared0 rows) L1) r.1 = [] := by
      unfold fitsE bookOf
      rw [List.filter_eq_nil_iff]
      intro x hx q
      obtain ⟨y, hy, rfl⟩ := List.mem_map.mp hx
      have ny : Named rows y := (N.mem y).mp (pL.subset (by rw [e]; exact List.mem_append_left _ hy))
      have ryz : reachB rows y r.2 = false := by
        rw [e] at pw
        exact (List.pairwise_append.mp pw).2.2 y hy r.2 List.mem_cons_self
      have ne : y ≠ r.2 := fun z => by
        rw [e] at ndL
        exact (List.nodup_append.mp ndL).2.2 y hy r.2 List.mem_cons_self z
      have := reachB_iff'.mpr ⟨ne, r, hr, rfl, fun m hm => inside_mem q m ((lotOf_mem (b y ny)).mpr hm)⟩
      rw [ryz] at this
      cases this
    unfold speaksX
    rw [if_pos rfl, e]
    have ef : fitsE (bookOf n (Shared0 rows) (L1 ++ r.2 :: L2)) r.1 = (lotOf n (Shared0 rows) r.2, r.2) :: fitsE (bookOf n (Shared0 rows) L2) r.1 := by
      unfold fitsE bookOf at none1 ⊢
      rw [List.map_append, List.filter_append, none1, List.map_cons, List.filter_cons_of_pos (p := fun e : Ent => inside e.1 r.1) (a := (lotOf n (Shared0 rows) r.2, r.2)) own]
      rfl
    rw [ef]
    rfl
theorem order_names {bs row : List Ent} (ib : IsBook F every bs) (nd : F.Nodup) (io : IsOrder bs row) : (row.map (·.2)).Nodup ∧ ∀ z ∈ F, ∃ e ∈ row, e.2 = z := by
  have nb : (bs.map (·.2)).Nodup := by rw [ib.1]; exact nd
  have nr : (row.map (·.2)).Nodup := List.pairwise_map.mpr (io.1.imp_of_mem fun ha hb ne e => ne (one_name nb (io.2.2 _ ha) (io.2.2 _ hb) e))
  refine ⟨nr, fun z hz => ?_⟩
  apply Classical.byContradiction
  intro q
  have nz : z ∉ row.map (·.2) := fun h => by
    obtain ⟨e, he, ez⟩ := List.mem_map.mp h
    exact q ⟨e, he, ez⟩
  have := List.Nodup.length_le_of_subset (l₁ := z :: row.map (·.2)) (l₂ := F) (List.nodup_cons.mpr ⟨nz, nr⟩) fun y hy => by
    rcases List.mem_cons.mp hy with h | h
    · rw [h]; exact hz
    · obtain ⟨e, he, rfl⟩ := List.mem_map.mp h
      rw [← ib.1]
      exact List.mem_map.mpr ⟨e, io.2.2 e he, rfl⟩
  rw [List.length_cons, List.length_map, io.2.1, ← ib.1, List.length_map] at this
  omega
theorem head_split {es : List Ent} {c : List Int} {x : Ent} (h : (fitsE es c).head? = some x) : x ∈ es ∧ inside x.1 c = true := by
  have := List.mem_of_head? h
  exact List.mem_filter.mp this
theorem made_of_row {bs row : List Ent} (N : Names rows F) (ib : IsBook F every bs) (io : IsOrder bs row) (sp : Speaks "row" rows row) : madeB "row" rows = true := by
  rw [made_row N.nd N.mem (Nat.le_refl _), stand_trap _ _ _ (Nat.le_refl _)]
  rintro S sub ⟨ne, tr⟩
  obtain ⟨nd, all⟩ := order_names ib N.nd io
  have sp' : ∀ r ∈ rows, ∃ x, (fitsE row r.1).head? = some x ∧ x.2 = r.2 := fun r hr => by
    have := sp r hr
    unfold speaksX at this
    rw [if_pos rfl] at this
    exact Option.map_eq_some_iff.mp this
  obtain ⟨s, hs⟩ := List.exists_mem_of_ne_nil S ne
  obtain ⟨e0, he0, es0⟩ := all s (sub s hs)
  obtain ⟨R1, e, R2, er, heS, no⟩ := first_of (p := fun x : Ent => x.2 ∈ S) ⟨e0, he0, by rw [es0]; exact hs⟩
  have her : e ∈ row := by rw [er]; exact List.mem_append_right _ List.mem_cons_self
  obtain ⟨o, ho, q⟩ := tr e.2 heS
  obtain ⟨neo, r, hr, ero, w⟩ := reachB_iff'.mp q
  have fit : inside e.1 r.1 = true := inside_of fun m hm => w m fun r' hr' e' => by
    obtain ⟨x, hx, ex⟩ := sp' r' hr'
    obtain ⟨hxr, fx⟩ := head_split hx
    have : x = e := one_name nd hxr her (by rw [ex, e'])
    rw [this] at fx
    exact inside_mem fx m hm
  obtain ⟨x, hx, ex⟩ := sp' r hr
  have ef : fitsE row r.1 = fitsE R1 r.1 ++ e :: fitsE R2 r.1 := by
    unfold fitsE
    rw [er, List.filter_append, List.filter_cons_of_pos (p := fun x : Ent => inside x.1 r.1) (a := e) fit]
  rw [ef] at hx
  cases h1 : fitsE R1 r.1 with
  | nil =>
    rw [h1] at hx
    obtain rfl : e = x := Option.some.inj hx
    exact neo (by rw [ex, ero])
  | cons y t =>
    rw [h1] at hx
    obtain rfl : y = x := Option.some.inj hx
    have : y ∈ R1 := (List.mem_filter.mp (show y ∈ fitsE R1 r.1 by rw [h1]; exact List.mem_cons_self)).1
    exact no y this (by rw [ex, ero]; exact ho)
/-! who holds all others -/
theorem less_all {fs : List Ent} {e : Ent} (nd : fs.Nodup) (he : e ∈ fs) : (lessE fs e).length + 1 = fs.length ↔ ∀ o ∈ fs, o ≠ e → inside o.1 e.1 = true ∧ o.1 ≠ e.1 := by
  obtain ⟨l1, l2, rfl⟩ := List.append_of_mem he
  have pe : (inside e.1 e.1 && decide (e.1 ≠ e.1)) = false := by simp
  have el : lessE (l1 ++ e :: l2) e = l1.filter (fun o => inside o.1 e.1 && decide (o.1 ≠ e.1)) ++ l2.filter (fun o => inside o.1 e.1 && decide (o.1 ≠ e.1)) := by
    unfold lessE
    rw [List.filter_append, List.filter_cons_of_neg (by rw [pe]; decide)]
  have a1 := List.length_filter_le (fun o : Ent => inside o.1 e.1 && decide (o.1 ≠ e.1)) l1
  have a2 := List.length_filter_le (fun o : Ent => inside o.1 e.1 && decide (o.1 ≠ e.1)) l2
  rw [el, List.length_append, List.length_append, List.length_cons]
  obtain ⟨_, nd2, dj⟩ := List.nodup_append.mp nd
  have e2 : e ∉ l2 := (List.nodup_cons.mp nd2).1
  constructor
  · intro h o ho ne
    have q1 := (List.length_filter_eq_length_iff (p := fun o : Ent => inside o.1 e.1 && decide (o.1 ≠ e.1)) (l := l1)).mp (by omega)
    have q2 := (List.length_filter_eq_length_iff (p := fun o : Ent => inside o.1 e.1 && decide (o.1 ≠ e.1)) (l := l2)).mp (by omega)
    have : (inside o.1 e.1 && decide (o.1 ≠ e.1)) = true := by
      rcases List.mem_append.mp ho with z | z
      · exact q1 o z
      · rcases List.mem_cons.mp z with z | z
        · exact absurd z ne
        · exact q2 o z
    rw [Bool.and_eq_true, decide_eq_true_iff] at this
    exact this
  · intro h
    have q1 : (l1.filter fun o => inside o.1 e.1 && decide (o.1 ≠ e.1)).length = l1.length := List.length_filter_eq_length_iff.mpr fun o ho => by
      have := h o (List.mem_append_left _ ho) fun z => dj o ho e List.mem_cons_self z
      rw [Bool.and_eq_true, decide_eq_true_iff]
      exact this
    have q2 : (l2.filter fun o => inside o.1 e.1 && decide (o.1 ≠ e.1)).length = l2.length := List.length_filter_eq_length_iff.mpr fun o ho => by
      have := h o (List.mem_append_right _ (List.mem_cons_of_mem _ ho)) fun z => e2 (z ▸ ho)
      rw [Bool.and_eq_true, decide_eq_true_iff]
      exact this
    omega
open Classical in
theorem within_of_made (N : Names rows F) (cl : ∀ r ∈ rows, ∀ m ∈ r.1, m ∈ rng n) (made : madeB "within" rows = true) (ev : ∀ l, l ∈ lots (rng n) → l ∈ every) :
    ∃ bs, IsBook F every bs ∧ Speaks "within" rows bs := by
  have nr : ¬ ("within" : Str) = "row" := by decide +kernel
  unfold madeB at made
  rw [if_neg nr, decide_eq_true_iff] at made
  obtain ⟨h, U, S, A⟩ := made
  have b : ∀ z, Named rows z → ∀ m, h z m → m ∈ rng n := fun z ⟨r, hr, e⟩ m q => cl r hr m (U.low z ⟨r, hr, e⟩ m q r hr e)
  refine ⟨bookOf n h F, bookOf_is ev h F, fun r hr => ?_⟩
  have nz : Named rows r.2 := ⟨r, hr, rfl⟩
  have nb : ((bookOf n h F).map (·.2)).Nodup := by rw [(bookOf_is ev h F).1]; exact N.nd
  have own : inside (lotOf n h r.2) r.1 = true := inside_of fun m hm => U.low _ nz m ((lotOf_mem (b _ nz)).mp hm) r hr rfl
  have me : (lotOf n h r.2, r.2) ∈ fitsE (bookOf n h F) r.1 := List.mem_filter.mpr ⟨List.mem_map.mpr ⟨r.2, (N.mem _).mpr nz, rfl⟩, own⟩
  have nf : (fitsE (bookOf n h F) r.1).Nodup := (nodup_snd nb).sublist List.filter_sublist
  have below : ∀ o ∈ fitsE (bookOf n h F) r.1, o ≠ (lotOf n h r.2, r.2) → inside o.1 (lotOf n h r.2) = true ∧ o.1 ≠ lotOf n h r.2 := fun o ho ne => by
    obtain ⟨hb, fo⟩ := List.mem_filter.mp ho
    obtain ⟨y, hy, rfl⟩ := List.mem_map.mp hb
    have ny := (N.mem y).mp hy
    have st := S y ny r hr fun m hm => inside_mem fo m ((lotOf_mem (b y ny)).mpr hm)
    refine ⟨inside_of fun m hm => (lotOf_mem (b _ nz)).mpr (st m ((lotOf_mem (b y ny)).mp hm)), fun e => ?_⟩
    have e : lotOf n h y = lotOf n h r.2 := e
    have : y = r.2 := A y r.2 ny nz fun m => by rw [← lotOf_mem (b y ny), ← lotOf_mem (b _ nz), e]
    exact ne (by rw [this])
  have top : topE (fitsE (bookOf n h F) r.1) = some (lotOf n h r.2, r.2) := by
    unfold topE
    cases hf : (fitsE (bookOf n h F) r.1).find? fun e => decide ((lessE (fitsE (bookOf n h F) r.1) e).length + 1 = (fitsE (bookOf n h F) r.1).length) with
    | none => exact absurd (decide_eq_true ((less_all nf me).mpr below)) (List.find?_eq_none.mp hf _ me)
    | some e' =>
      have ce := List.find?_some hf
      have he' := List.mem_of_find?_eq_some hf
      have all' := (less_all nf he').mp (of_decide_eq_true ce)
      apply Classical.byContradiction
      intro ne
      have ne' : e' ≠ (lotOf n h r.2, r.2) := fun z => ne (by rw [z])
      obtain ⟨i1, i2⟩ := below e' he' ne'
      obtain ⟨j1, j2⟩ := all' _ me (Ne.symm ne')
      obtain ⟨y, hy, rfl⟩ := List.mem_map.mp (List.mem_filter.mp he').1
      have ny := (N.mem y).mp hy
      have : y = r.2 := A y r.2 ny nz fun m => by
        rw [← lotOf_mem (b y ny), ← lotOf_mem (b _ nz)]
        exact ⟨inside_mem i1 m, inside_mem j1 m⟩
      exact ne' (by rw [this])
  unfold speaksX
  rw [if_neg nr, top]
  rfl
open Classical in
theorem made_of_within {bs : List Ent} (N : Names rows F) (asc : ∀ l ∈ every, l.Pairwise (· < ·)) (ib : IsBook F every bs) (sp : Speaks "within" rows bs) : madeB "within" rows = true := by
  have nr : ¬ ("within" : Str) = "row" := by decide +kernel
  have nb : (bs.map (·.2)).Nodup := by rw [ib.1]; exact N.nd
  have top : ∀ r ∈ rows, ∃ e ∈ bs, e.2 = r.2 ∧ inside e.1 r.1 = true ∧ ∀ o ∈ bs, inside o.1 r.1 = true → o ≠ e → inside o.1 e.1 = true ∧ o.1 ≠ e.1 := fun r hr => by
    have := sp r hr
    unfold speaksX at this
    rw [if_neg nr] at this
    obtain ⟨e, he, e2⟩ := Option.map_eq_some_iff.mp this
    unfold topE at he
    have hm := List.mem_of_find?_eq_some he
    have nf : (fitsE bs r.1).Nodup := (nodup_snd nb).sublist List.filter_sublist
    have ce := List.find?_some he
    have all := (less_all nf hm).mp (of_decide_eq_true ce)
    obtain ⟨hb, fe⟩ := List.mem_filter.mp hm
    exact ⟨e, hb, e2, fe, fun o ho fo ne => all o (List.mem_filter.mpr ⟨ho, fo⟩) ne⟩
  have g : ∀ z m, (∃ e ∈ bs, e.2 = z ∧ m ∈ e.1) → True := fun _ _ _ => trivial
  let G : Str → Int → Prop := fun z m => ∃ e ∈ bs, e.2 = z ∧ m ∈ e.1
  have Gof : ∀ {e : Ent}, e ∈ bs → ∀ m, G e.2 m ↔ m ∈ e.1 := fun he m => ⟨fun ⟨e', he', e2, hm⟩ => by rw [← one_name nb he' he e2]; exact hm, fun hm => ⟨_, he, rfl, hm⟩⟩
  have Gst : Still rows G := fun z nz r hr w m hm => by
    obtain ⟨e', he', e2, hme⟩ := hm
    obtain ⟨e, he, ez, fe, all⟩ := top r hr
    subst e2
    rw [← ez, Gof he]
    by_cases q : e' = e
    · rw [← q]; exact hme
    · exact inside_mem (all e' he' (inside_of fun k hk => w k ((Gof he' k).mpr hk)) q).1 m hme
  have Glow : ∀ z, Named rows z → ∀ m, G z m → Shared0 rows z m := fun z nz m ⟨e', he', e2, hme⟩ r hr er => by
    obtain ⟨e, he, ez, fe, all⟩ := top r hr
    have : e' = e := one_name nb he' he (by rw [e2, ez, er])
    subst this
    exact inside_mem fe m hme
  obtain ⟨f, U, S⟩ := some_end rows
  have gf := U.top G Gst Glow
  have half : ∀ y z, Named rows y → Named rows z → (∀ m, f y m ↔ f z m) → ∀ m, G z m → G y m := fun y z ny nz eq m q => by
    obtain ⟨r, hr, er⟩ := ny
    have := Gst z nz r hr (fun k hk => U.low y ⟨r, hr, er⟩ k ((eq k).mpr (gf z nz k hk)) r hr er) m q
    rw [er] at this
    exact this
  unfold madeB
  rw [if_neg nr, decide_eq_true_iff]
  refine ⟨f, U, S, fun y z ny nz eq => ?_⟩
  have gy := half y z ny nz eq
  have gz := half z y nz ny fun m => (eq m).symm
  apply Classical.byContradiction
  intro ne
  obtain ⟨r, hr, er⟩ := nz
  obtain ⟨e, he, ez, fe, all⟩ := top r hr
  have hy : y ∈ bs.map (·.2) := by rw [ib.1]; exact (N.mem y).mpr ny
  obtain ⟨e', he', ey⟩ := List.mem_map.mp hy
  have same : ∀ m, m ∈ e'.1 ↔ m ∈ e.1 := fun m => by
    rw [← Gof he', ← Gof he, ey, ez, er]
    exact ⟨gz m, gy m⟩
  have neq : e' ≠ e := fun q => ne (by rw [← ey, q, ez, er])
  have := all e' he' (inside_of fun m hm => inside_mem fe m ((same m).mp hm)) neq
  have u1 := asc _ (ib.2 e' he')
  have u2 := asc _ (ib.2 e he)
  have l1 := asc_sub_len u2 u1 fun m hm => (same m).mp hm
  have l2 := asc_sub_len u1 u2 fun m hm => (same m).mpr hm
  exact this.2 (asc_sub_eq u2 u1 (fun m hm => (same m).mp hm) (by omega))
end
end Xci

namespace Xci
open PySem L2
def nm13 : List Str := ["p", "q", "r", "pp", "abcdefgh", "s", "qp", "z", "a", "zz", "m", "pq", "k"]
theorem nm13_ok : ∀ z ∈ nm13, WordOk z := fun z hz => by
  have h : (nm13.all fun z => decide (1 ≤ z.length) && decide (z.length ≤ 8) && z.cps.toList.all fun c => decide (97 ≤ c ∧ c ≤ 122)) = true := by decide +kernel
  have q := List.all_eq_true.mp h z hz
  simp only [Bool.and_eq_true, decide_eq_true_eq, List.all_eq_true] at q
  exact ⟨q.1.1, q.1.2, q.2⟩
def spNames : Sp := fun vs H Q _ => ∃ (a l : Addr) (m : Int), vs = [.ref a, .int m] ∧ Dice H a l ∧ 1 ≤ m ∧ m ≤ 12 ∧
  ∀ (q : Addr) (zs : List Str) (H' : Hp), H' q = some (.lst (zs.map V.str)) → (zs.length : Int) = m → (∀ z ∈ zs, z ∈ nm13) → H q = Option.none → Dice H' a l → Fr a H H' → Q (.ref q) H'
def spManner : Sp := fun vs H Q _ => ∃ (a l : Addr), vs = [.ref a] ∧ Dice H a l ∧ ∀ (m : Str) (H' : Hp), (m = "row" ∨ m = "within") → Dice H' a l → Fr a H H' → Q (.str m) H'
section
variable {P : Program} {w : World} {K : PySem.W.Frag} {mg : Str → Option Value} {base : Heap}
abbrev sLawNames : Stmt := top 42
theorem scLawNames : FnScope ["dice", "many", "left", "turn"] ["dice", "many"] (defScope sLawNames) := ⟨rfl, rfl, rfl, by decide +kernel, rfl, by decide +kernel, by decide +kernel⟩
set_option maxHeartbeats 4000000 in
theorem ok_names {f : Addr} {fd : FuncData} (F : Fun K "_law_names" "_law_names" sLawNames f fd) (T : Txt mg) (HT : Has P w K mg base "_law_draw" ["dice", "sides"] 1 spDraw) : FnOk P w K mg base CX0 2 f fd ["dice", "many"] spNames := by
  refine F.ok scLawNames (fun vs H Q E h => ?_) (fun cdv A outer s H vs Q E hr h => ?_)
  · obtain ⟨a, l, m, rfl, _⟩ := h
    rfl
  · obtain ⟨a, ld, m, rfl, hd, m1, m5, k⟩ := h
    refine ⟨_, (pss_cons (ps_set (i := 2) scLawNames.nd rfl (by first | exact Or.inl rfl | exact Or.inr rfl) (pe_lst (pa_cons pe_str (pa_cons pe_str (pa_cons pe_str (pa_cons pe_str (pa_cons pe_str (pa_cons pe_str (pa_cons pe_str (pa_cons pe_str (pa_cons pe_str (pa_cons pe_str (pa_cons pe_str (pa_cons pe_str (pa_cons pe_str pa_nil)))))))))))))))
      (pss_one (ps_ret (pe_lc (own := [("turn", 3)]) rfl scLawNames.nd (pi_range1 rfl T.range (pa_cons (pv 1) pa_nil)) (blkOk_by (N := ["dice", "many", "left", "turn"]) (sc := defScope sLawNames) (by decide +kernel)) (fun _ _ _ _ _ => (pg_name (i := 3) scLawNames.nd rfl (by first | exact Or.inl rfl | exact Or.inr rfl))) (fun _ _ _ _ _ => pts_nil) (fun _ _ _ _ _ => (show PE _ _ (tBM K "list" _ _ _) from (pe_bm PySem.F.plainAttrs_list PySem.F.slot_list_pop PySem.F.type_list_pop mt_popAt (pv 2) (pa_cons (pe_callH HT (hr.mono (by decide)) rfl (pa_cons (pv 0) (pa_cons (pe_callB (show CallR _ _ (rLen K) from call_lenK) rfl T.len PySem.boot_len (pa_cons (pv 2) pa_nil)) pa_nil))) pa_nil)))))))), ?_⟩
    refine ⟨by show 13 ≤ sizeLine; decide, fun L hL => ?_⟩
    have s1 : Same H (upd H L (.lst [.str "p", .str "q", .str "r", .str "pp", .str "abcdefgh", .str "s", .str "qp", .str "z", .str "a", .str "zz", .str "m", .str "pq", .str "k"])) := Same.new hL
    have e1 : (upd H L (.lst [.str "p", .str "q", .str "r", .str "pp", .str "abcdefgh", .str "s", .str "qp", .str "z", .str "a", .str "zz", .str "m", .str "pq", .str "k"])) L = some (.lst (nm13.map V.str)) := upd_same
    have nL := hd.ne hL
    have mL := hd.ne' hL
    generalize upd H L (.lst [.str "p", .str "q", .str "r", .str "pp", .str "abcdefgh", .str "s", .str "qp", .str "z", .str "a", .str "zz", .str "m", .str "pq", .str "k"]) = H1 at *
    refine ⟨_, rfl, _, rfl, by omega, by omega, fun D hD => ?_⟩
    have hD0 : H D = none := s1.free hD
    have nD := hd.ne hD0
    have mD := hd.ne' hD0
    have nLD : L ≠ D := ne_of_none e1 hD
    refine lc_range (n := m.toNat) (fun i H4 => ∃ us zs : List Str, H4 L = some (.lst (us.map V.str)) ∧ H4 D = some (.lst (zs.map V.str)) ∧ us.length + i = 13 ∧ zs.length = i ∧ (∀ z ∈ us, z ∈ nm13) ∧ (∀ z ∈ zs, z ∈ nm13) ∧ Dice H4 a ld ∧ Fr a H H4)
      ⟨nm13, [], by rw [upd_ne nLD]; exact e1, upd_same, rfl, rfl, fun _ h => h, nofun, (hd.keep s1).keep (Same.new hD), (Fr.same s1).trans (Fr.new hD)⟩ ?_ ?_
    · rintro i H4 hi ⟨us, zs, e4, d4, lu, lz, mu, mz, hd4, f4⟩
      have ul : (us.map V.str).length = us.length := List.length_map _
      refine ⟨rfl, _, rfl, .inl ⟨rfl, _, SqL.of e4⟩, _, rfl, _, rfl, _, us.length, rfl, .inl ⟨_, SqL.of e4, ul.symm⟩, a, ld, _, rfl, hd4, by omega, by omega, fun d H5 d0 d1 hd5 f5 => ?_⟩
      obtain ⟨j, ej⟩ : ∃ j : Nat, d = (j : Int) := ⟨d.toNat, by omega⟩
      subst ej
      have hj : j < us.length := by omega
      have hv : (us.map V.str)[j]? = some (V.str us[j]) := by rw [List.getElem?_map, List.getElem?_eq_getElem hj]; rfl
      have e5 := f5 _ _ e4 nL
      have d5 := f5 _ _ d4 nD
      refine ⟨L, _, _, j, V.str us[j], rfl, rfl, e5, by omega, by omega, ?_, hv, ?_⟩
      · rw [ul]
        unfold seqIndex?
        simp
        try omega
      have ee : (us.map V.str).eraseIdx j = (us.eraseIdx j).map V.str := erase_map _ _ _
      have le : (us.eraseIdx j).length = us.length - 1 := List.length_eraseIdx_of_lt hj
      refine ⟨_, by rw [upd_ne nLD.symm]; exact d5, by rw [List.length_map]; exact small1000 (by omega), us.eraseIdx j, zs ++ [us[j]], ?_, by rw [upd_same, List.map_append]; rfl, by omega, by rw [List.length_append, lz]; rfl, fun z hz => mu z (List.mem_of_mem_eraseIdx hz), fun z hz => ?_, (hd5.put nL mL).put nD mD, fun b o h n => ?_⟩
      · rw [upd_ne nLD, upd_same, ee]
      · rcases List.mem_append.mp hz with h | h
        · exact mz z h
        · rw [List.mem_singleton.mp h]; exact mu _ (List.getElem_mem hj)
      · rw [upd_ne (ne_of_none h hD0), upd_ne (ne_of_none h hL)]
        exact f5 _ _ (f4 _ _ h n) n
    · rintro H4 ⟨us, zs, e4, d4, lu, lz, mu, mz, hd4, f4⟩
      exact k D zs H4 d4 (by omega) mz hD0 hd4 f4
abbrev sLawManner : Stmt := top 54
theorem scLawManner : FnScope ["dice"] ["dice"] (defScope sLawManner) := ⟨rfl, rfl, rfl, by decide +kernel, rfl, by decide +kernel, by decide +kernel⟩
theorem ok_manner {f : Addr} {fd : FuncData} (F : Fun K "_law_manner" "_law_manner" sLawManner f fd) (T : Txt mg) (HT : Has P w K mg base "_law_draw" ["dice", "sides"] 1 spDraw) : FnOk P w K mg base CX0 2 f fd ["dice"] spManner := by
  refine F.ok scLawManner (fun vs H Q E h => ?_) (fun cdv A outer s H vs Q E hr h => ?_)
  · obtain ⟨a, l, rfl, _⟩ := h
    rfl
  · obtain ⟨a, ld, rfl, hd, k⟩ := h
    refine ⟨_, (pss_one (ps_ret (pe_ix ix_list (pe_lst (pa_cons pe_str (pa_cons pe_str pa_nil))) (pe_callH HT (hr.mono (by decide)) rfl (pa_cons (pv 0) (pa_cons pe_int pa_nil))) (fun _ _ => rfl)))), ?_⟩
    refine ⟨by show 2 ≤ sizeLine; decide, fun L hL => ?_⟩
    have s1 : Same H (upd H L (.lst [.str "row", .str "within"])) := Same.new hL
    have e1 : (upd H L (.lst [.str "row", .str "within"])) L = some (.lst [.str "row", .str "within"]) := upd_same
    generalize upd H L (.lst [.str "row", .str "within"]) = H1 at *
    refine ⟨_, rfl, a, ld, 2, rfl, hd.keep s1, by decide, by decide, fun d H2 d0 d1 hd2 f2 => ?_⟩
    have e2 := f2 _ _ e1 (hd.ne hL)
    have fr := (Fr.same s1).trans f2
    have : d = 0 ∨ d = 1 := by omega
    rcases this with rfl | rfl
    · exact ⟨L, _, _, _, rfl, rfl, SqL.of e2, at_of (j := 0) rfl rfl, k "row" H2 (.inl rfl) hd2 fr⟩
    · exact ⟨L, _, _, _, rfl, rfl, SqL.of e2, at_of (j := 1) rfl rfl, k "within" H2 (.inr rfl) hd2 fr⟩
end
end Xci

namespace Xci
open PySem L2
def spSpeaksN : Sp := fun vs H Q _ => ∃ (man : Str) (q : Addr) (ys : List V) (es : List Ent) (v : V) (c : List Int), vs = [.str man, .ref q, v] ∧ H q = some (.lst ys) ∧ Ents H ys es ∧ (∀ e ∈ es, e.1.length ≤ 1000) ∧ es.length ≤ 100 ∧ Xci.Mk H v c ∧ c.length ≤ 1000 ∧
  ∀ (fo : Option Str) (H' : Hp), (∀ z, fo = some z → z ∈ es.map (·.2)) → Same H H' → Q (formV fo) H'
theorem sh_mk (ms : List Int) : SeqAt.shaped (mkD ms) = true := by
  have d : PyData.depth (mkD ms) ≤ 64 := by rw [deep_mk]; omega
  unfold SeqAt.shaped
  rw [decide_eq_true d, Bool.and_true]
  exact lay_mk ms
section
variable {P : Program} {w : World} {K : PySem.W.Frag} {mg : Str → Option Value} {base : Heap}
abbrev sLawSpeaks : Stmt := top 50
theorem scLawSpeaks : FnScope ["manner", "entries", "cell", "fits", "entry", "less", "other"] ["manner", "entries", "cell"] (defScope sLawSpeaks) := ⟨rfl, rfl, rfl, by decide +kernel, rfl, by decide +kernel, by decide +kernel⟩
set_option maxHeartbeats 4000000 in
theorem ok_speaksN {f : Addr} {fd : FuncData} (F : Fun K "_law_speaks" "_law_speaks" sLawSpeaks f fd) (T : Txt mg) (HW : Has P w K mg base "_law_within" ["one", "other"] 1 spIn) : FnOk P w K mg base CX0 2 f fd ["manner", "entries", "cell"] spSpeaksN := by
  refine F.ok scLawSpeaks (fun vs H Q E h => ?_) (fun cdv A outer s H vs Q E hr h => ?_)
  · obtain ⟨man, q, ys, es, v, c, rfl, _⟩ := h
    rfl
  · obtain ⟨man, q, ys, es, v, c, rfl, hq, ents, elen, few, mv, clen, k⟩ := h
    refine ⟨_, (C8.pss_cut (ps_setLc (i := 3) (own := [("entry", 4)]) rfl scLawSpeaks.nd rfl rfl (sw_true rfl rfl rfl (by decide +kernel)) (pi_list (pv 1)) (blkOk_by (N := ["manner", "entries", "cell", "fits", "entry", "less", "other"]) (sc := defScope sLawSpeaks) (by decide +kernel)) (fun _ _ _ _ _ => (pg_name (i := 4) scLawSpeaks.nd rfl (by first | exact Or.inl rfl | exact Or.inr rfl))) (fun _ _ _ _ _ => pts_one (pt_val (pe_callH HW (hr.mono (by decide)) rfl (pa_cons (pe_ix (show IxR _ (rIxT K) from ix_tup) (pv 4) pe_int (fun _ _ => rfl)) (pa_cons (pv 2) pa_nil))))) (fun _ _ _ _ _ => (pv 4)))
      (pss_cons (ps_if (pt_cmpR op_eq (pv 0) pe_str (nomark _)) (pss_one (ps_ret (pe_ifExp (pt_cmpR op_gt (pe_callB call_len rfl T.len PySem.boot_len (pa_cons (pv 3) pa_nil)) pe_int (nomark _)) (pe_ix ix_tup (pe_ix ix_list (pv 3) pe_int (fun _ _ => rfl)) pe_int (fun _ _ => rfl)) pe_non))) pss_nil)
      (pss_cons (ps_for PassesOwn.never rfl (pi_list (pv 3)) (pg_name (i := 4) scLawSpeaks.nd rfl (by first | exact Or.inl rfl | exact Or.inr rfl)) (pss_cons (ps_setLc (i := 5) (own := [("other", 6)]) rfl scLawSpeaks.nd rfl rfl (sw_true rfl rfl rfl (by decide +kernel)) (pi_list (pv 3)) (blkOk_by (N := ["manner", "entries", "cell", "fits", "entry", "less", "other"]) (sc := defScope sLawSpeaks) (by decide +kernel)) (fun _ _ _ _ _ => (pg_name (i := 6) scLawSpeaks.nd rfl (by first | exact Or.inl rfl | exact Or.inr rfl))) (fun _ _ _ _ _ => pts_one (PW.pt (pw_and (pt_val (pe_callH HW (hr.mono (by decide)) rfl (pa_cons (pe_ix (show IxR _ (rIxT K) from ix_tup) (pv 6) pe_int (fun _ _ => rfl)) (pa_cons (pe_ix (show IxR _ (rIxT K) from ix_tup) (pv 4) pe_int (fun _ _ => rfl)) pa_nil)))) (pw_and1 (pt_cmpR (show OpR _ _ (rNeD K) from op_neD (hu64 hr)) (pe_ix (show IxR _ (rIxT K) from ix_tup) (pv 6) pe_int (fun _ _ => rfl)) (pe_ix (show IxR _ (rIxT K) from ix_tup) (pv 4) pe_int (fun _ _ => rfl)) (nomark _)))))) (fun _ _ _ _ _ => (pv 6)))
      (pss_one (ps_if (pt_cmpR op_eq (pe_callB call_len rfl T.len PySem.boot_len (pa_cons (pv 5) pa_nil)) (pe_op op_sub (pe_callB call_len rfl T.len PySem.boot_len (pa_cons (pv 3) pa_nil)) pe_int) (nomark _)) (pss_one (ps_ret (pe_ix ix_tup (pv 4) pe_int (fun _ _ => rfl)))) pss_nil))))
      (pss_one (ps_ret pe_non))))), ?_⟩
    have lys := Paired.length ents
    refine ⟨fun σ' H1 => ∃ (d : Addr) (zs : List V) (fs : List Ent), Same H H1 ∧ H1 d = some (.lst zs) ∧ Ents H1 zs fs ∧ (∀ e ∈ fs, e ∈ es) ∧ fs.length ≤ es.length ∧ ∃ o4 : Option V, σ' = [some (.str man), some (.ref q), some v, some (.ref d), o4, none, none], ?_, ?_⟩
    · refine ⟨_, rfl, q, rfl, ⟨_, SqL.of hq⟩, fun D hD => ?_⟩
      refine lc_list (K := K) (a := q) (xs := ys) (fun i H4 => ∃ (zs : List V) (fs : List Ent), Same H H4 ∧ H4 D = some (.lst zs) ∧ Ents H4 zs fs ∧ (∀ e ∈ fs, e ∈ es) ∧ fs.length ≤ i) ⟨[], [], Same.new hD, upd_same, .nil, nofun, Nat.le_refl _⟩ (fun i H4 _ ⟨_, _, e, _⟩ => SqL.of (e _ _ hq)) ?_ ?_
      · rintro i x H4 hi ⟨zs, fs, sm, e4, en4, sub, lf⟩
        have lt := (List.getElem?_eq_some_iff.mp hi).1
        obtain ⟨e, ee, u, ⟨tp, rfl, htp⟩, mu⟩ := Paired.get (Ents.keep (TFr.same sm) ents) hi
        have me := List.mem_of_getElem? ee
        refine ⟨rfl, _, rfl, tp, _, _, _, rfl, rfl, sqT htp, at_of (j := 0) rfl rfl, _, rfl, u, v, e.1, c, rfl, mu, Tup.keep (TFr.same sm) mv, elen e me, fun H5 s5 => ⟨_, rfl, ?_⟩⟩
        refine ite2 (fun _ => ?_) (fun _ => ?_)
        · have lz : zs.length ≤ 100 := by rw [Paired.length en4]; omega
          refine ⟨_, rfl, zs, s5 _ _ e4, small1000 (by omega), zs ++ [.ref tp], fs ++ [e], fun b o h => by rw [upd_ne (ne_of_none h hD)]; exact s5 _ _ (sm b o h), upd_same, ?_, fun z hz => ?_, by rw [List.length_append]; exact Nat.succ_le_succ lf⟩
          · have tf : TFr H5 (upd H5 D (.lst (zs ++ [.ref tp]))) := TFr.lst (s5 _ _ e4)
            exact Paired.app (Ents.keep tf (Ents.keep (TFr.same s5) en4)) (Paired.one (EntV.keep tf (EntV.keep (TFr.same s5) ⟨u, ⟨tp, rfl, htp⟩, mu⟩)))
          · rcases List.mem_append.mp hz with h | h
            · exact sub z h
            · rw [List.mem_singleton.mp h]; exact me
        · exact ⟨zs, fs, sm.trans s5, s5 _ _ e4, Ents.keep (TFr.same s5) en4, sub, by omega⟩
      · rintro H4 ⟨zs, fs, sm, e4, en4, sub, lf⟩
        exact ⟨D, zs, fs, sm, e4, en4, sub, by omega, _, rfl⟩
    rintro σ' H1 ⟨d, zs, fs, s1, e1, en1, sub, lf, o4, rfl⟩
    have lzs := Paired.length en1
    have told : ∀ e ∈ fs, ∀ z, some e.2 = some z → z ∈ es.map (·.2) := fun e he z ez => by
      cases ez
      exact List.mem_map.mpr ⟨e, sub e he, rfl⟩
    refine ⟨_, rfl, rfl, _, rfl, ?_⟩
    refine ite2 (fun _ => ?_) (fun _ => ?_)
    · refine ⟨_, rfl, _, zs.length, rfl, .inl ⟨_, SqL.of e1, rfl⟩, _, _, rfl, rfl, _, rfl, ?_⟩
      refine ite2 (fun is => ?_) (fun _ => k none H1 nofun s1)
      have pos : (0 : Int) < ((zs.length : Nat) : Int) := of_decide_eq_true is
      have g0 : zs[0]? = some (zs[0]'(by omega)) := List.getElem?_eq_getElem (by omega)
      obtain ⟨e, ee, u, ⟨tp, etp, htp⟩, mu⟩ := Paired.get en1 g0
      rw [etp] at g0
      exact ⟨_, rfl, d, _, _, _, rfl, rfl, SqL.of e1, at_of (j := 0) rfl g0, tp, _, _, _, rfl, rfl, sqT htp, at_of (j := 1) rfl rfl, k (some e.2) H1 (told e (List.mem_of_getElem? ee)) s1⟩
    refine ⟨_, rfl, d, rfl, ⟨_, SqL.of e1⟩, ?_⟩
    refine for_list (K := K) (a := d) (xs := zs) (fun i σ H2 => Same H1 H2 ∧ ∃ o4 o5 : Option V, σ = [some (.str man), some (.ref q), some v, some (.ref d), o4, o5, none]) ⟨Same.refl H1, _, _, rfl⟩ (fun i σ H2 _ ⟨e, _⟩ => SqL.of (e _ _ e1)) ?_ ?_
    · rintro i x σ H2 hi ⟨s2, o4', o5, rfl⟩
      obtain ⟨e, ee, u, ⟨tp, rfl, htp⟩, mu⟩ := Paired.get (Ents.keep (TFr.same s2) en1) hi
      have me := sub e (List.mem_of_getElem? ee)
      have e2 := s2 _ _ e1
      refine ⟨_, rfl, d, rfl, ⟨_, SqL.of e2⟩, fun D2 hD2 => ?_⟩
      refine lc_list (K := K) (a := d) (xs := zs) (fun i HA => ∃ acc : List V, Same H2 HA ∧ HA D2 = some (.lst acc) ∧ acc.length ≤ i) ⟨[], Same.new hD2, upd_same, Nat.le_refl _⟩ (fun i HA _ ⟨_, e, _⟩ => SqL.of (e _ _ e2)) ?_ ?_
      · rintro j y HA hj ⟨acc, sA, eA, la⟩
        have ltj := (List.getElem?_eq_some_iff.mp hj).1
        obtain ⟨e', ee', u', ⟨tp', rfl, htp'⟩, mu'⟩ := Paired.get (Ents.keep (TFr.same (s2.trans sA)) en1) hj
        refine ⟨rfl, ?_⟩
        have lac : acc.length ≤ 100 := by omega
        have keepsA : Same H1 HA := s2.trans sA
        have htpA := sA _ _ htp
        have muA : Xci.Mk HA u e.1 := Tup.keep (TFr.same sA) mu
        refine ⟨_, rfl, tp', _, _, _, rfl, rfl, sqT htp', at_of (j := 0) rfl rfl, _, rfl, tp, _, _, _, rfl, rfl, sqT htpA, at_of (j := 0) rfl rfl, u', u, e'.1, e.1, rfl, mu', muA, elen e' (sub e' (List.mem_of_getElem? ee')), fun H5 s5 => ⟨_, rfl, ?_⟩⟩
        refine ite2 (fun _ => ?_) (fun _ => iteF ⟨acc, sA.trans s5, s5 _ _ eA, by omega⟩)
        have mu5 : Xci.Mk H5 u e.1 := Tup.keep (TFr.same s5) muA
        have mu5' : Xci.Mk H5 u' e'.1 := Tup.keep (TFr.same s5) mu'
        refine ⟨_, rfl, tp', _, _, _, rfl, rfl, sqT (s5 _ _ htp'), at_of (j := 0) rfl rfl, _, rfl, tp, _, _, _, rfl, rfl, sqT (s5 _ _ htpA), at_of (j := 0) rfl rfl, mkD e'.1, mkD e.1, dp_mk mu5', dp_mk mu5, sh_mk _, sh_mk _, _, rfl, ?_⟩
        refine ite2 (fun _ => ?_) (fun _ => ⟨acc, sA.trans s5, s5 _ _ eA, by omega⟩)
        exact ⟨_, rfl, acc, s5 _ _ eA, small1000 (by omega), acc ++ [.ref tp'], fun b o h => by rw [upd_ne (ne_of_none h hD2)]; exact s5 _ _ (sA b o h), upd_same, by rw [List.length_append]; exact Nat.succ_le_succ la⟩
      · rintro HA ⟨acc, sA, eA, la⟩
        have e1A := (s2.trans sA) _ _ e1
        refine ⟨_, rfl, _, acc.length, rfl, .inl ⟨_, SqL.of eA, rfl⟩, _, rfl, _, zs.length, rfl, .inl ⟨_, SqL.of e1A, rfl⟩, _, _, rfl, rfl, rfl, _, rfl, ?_⟩
        refine ite2 (fun _ => ?_) (fun _ => ⟨s2.trans sA, _, _, rfl⟩)
        exact ⟨_, rfl, tp, _, _, _, rfl, rfl, sqT (sA _ _ htp), at_of (j := 1) rfl rfl, k (some e.2) HA (told e (List.mem_of_getElem? ee)) (s1.trans (s2.trans sA))⟩
    · rintro σ H2 ⟨s2, o4', o5, rfl⟩
      exact k none H2 nofun (s1.trans s2)
end
end Xci

namespace Xci
open PySem L2
def spFormsN : Sp := fun vs H Q _ => ∃ (a ld pc : Addr) (cy : List V) (cells : List (List Int)) (man : Str), vs = [.ref a, .ref pc, .str man] ∧ Dice H a ld ∧ H pc = some (.tup cy) ∧ Mks H cy cells ∧ cells ≠ [] ∧ cells.length ≤ 24 ∧ (∀ c ∈ cells, MarksOk 6 c) ∧
  ∀ (q : Addr) (fs : List (Option Str)) (zs : List Str) (H' : Hp), H' q = some (.lst (fs.map formV)) → fs.length = cells.length → (∀ z, some z ∈ fs → z ∈ zs) → zs.length ≤ 5 → (∀ z ∈ zs, z ∈ nm13) → H q = Option.none → Dice H' a ld → Fr a H H' → Q (.ref q) H'
theorem marks_few {c : List Int} (h : MarksOk 6 c) : c.length ≤ 6 := by
  have sub : c.length ≤ (rng 6).length := List.Nodup.length_le_of_subset (h.up.imp fun q => by omega) fun m hm => by
    have h0 := h.lo m hm
    have h1 := h.hi m hm
    unfold rng
    exact List.mem_map.mpr ⟨m.toNat, List.mem_range.mpr (by omega), by omega⟩
  rwa [rng_len] at sub
section
variable {P : Program} {w : World} {K : PySem.W.Frag} {mg : Str → Option Value} {base : Heap}
abbrev sLawForms : Stmt := top 51
theorem scLawForms : FnScope ["dice", "cells", "manner", "names", "way", "cell", "entries", "name", "found"] ["dice", "cells", "manner"] (defScope sLawForms) := ⟨rfl, rfl, rfl, by decide +kernel, rfl, by decide +kernel, by decide +kernel⟩
set_option maxHeartbeats 8000000 in
theorem ok_formsN {f : Addr} {fd : FuncData} (F : Fun K "_law_forms" "_law_forms" sLawForms f fd) (T : Txt mg) (HT : Has P w K mg base "_law_draw" ["dice", "sides"] 1 spDraw) (HNm : Has P w K mg base "_law_names" ["dice", "many"] 2 spNames) (HSo : Has P w K mg base "_law_some" ["dice", "marks"] 2 spSome)
    (HSp : Has P w K mg base "_law_speaks" ["manner", "entries", "cell"] 2 spSpeaksN) : FnOk P w K mg base CX0 3 f fd ["dice", "cells", "manner"] spFormsN := by
  refine F.ok scLawForms (fun vs H Q E h => ?_) (fun cdv A outer s H vs Q E hr h => ?_)
  · obtain ⟨a, ld, pc, cy, cells, man, rfl, _⟩ := h
    rfl
  · obtain ⟨a, ld, pc, cy, cells, man, rfl, hd, hc, mc, cne, c24, cok, k⟩ := h
    refine ⟨_, (C8.pss_cut (ps_set (i := 3) scLawForms.nd rfl (by first | exact Or.inl rfl | exact Or.inr rfl) (pe_callH HNm (hr.mono (by decide)) rfl (pa_cons (pv 0) (pa_cons (pe_op op_add pe_int (pe_callH HT (hr.mono (by decide)) rfl (pa_cons (pv 0) (pa_cons pe_int pa_nil)))) pa_nil))))
      (C8.pss_cut (ps_set (i := 4) scLawForms.nd rfl (by first | exact Or.inl rfl | exact Or.inr rfl) (pe_callH HT (hr.mono (by decide)) rfl (pa_cons (pv 0) (pa_cons pe_int pa_nil))))
      (C8.pss_cut (ps_if (pt_cmpR op_eq (pv 4) pe_int (nomark _)) (pss_one (ps_ret (pe_lc (own := [("cell", 5)]) rfl scLawForms.nd (pi_tup (pv 1)) (blkOk_by (N := ["dice", "cells", "manner", "names", "way", "cell", "entries", "name", "found"]) (sc := defScope sLawForms) (by decide +kernel)) (fun _ _ _ _ _ => (pg_name (i := 5) scLawForms.nd rfl (by first | exact Or.inl rfl | exact Or.inr rfl))) (fun _ _ _ _ _ => pts_nil) (fun _ _ _ _ _ => (pe_ix (show IxR _ (rIxL K) from ix_list) (pv 3) (pe_callH HT (hr.mono (by decide)) rfl (pa_cons (pv 0) (pa_cons (pe_callB (show CallR _ _ (rLen K) from call_lenK) rfl T.len PySem.boot_len (pa_cons (pv 3) pa_nil)) pa_nil))) (fun _ _ => rfl)))))) pss_nil)
      (C8.pss_cut (ps_set (i := 6) scLawForms.nd rfl (by first | exact Or.inl rfl | exact Or.inr rfl) (pe_lst pa_nil))
      (C8.pss_cut (ps_for PassesOwn.never rfl (pi_list (pv 3)) (pg_name (i := 7) scLawForms.nd rfl (by first | exact Or.inl rfl | exact Or.inr rfl)) (pss_one (ps_expr (pe_bm PySem.F.plainAttrs_list PySem.F.slot_list_append PySem.F.type_list_append mt_append (pv 6) (pa_cons (pe_tup (pa_cons (pe_callH HSo (hr.mono (by decide)) rfl (pa_cons (pv 0) (pa_cons (pe_ix ix_tup (pv 1) (pe_callH HT (hr.mono (by decide)) rfl (pa_cons (pv 0) (pa_cons (pe_callB call_len rfl T.len PySem.boot_len (pa_cons (pv 1) pa_nil)) pa_nil))) (fun _ _ => rfl)) pa_nil))) (pa_cons (pv 7) pa_nil))) pa_nil)))))
      (C8.pss_cut (ps_setLc (i := 8) (own := [("cell", 5)]) rfl scLawForms.nd rfl rfl (sw_true rfl rfl rfl (by decide +kernel)) (pi_tup (pv 1)) (blkOk_by (N := ["dice", "cells", "manner", "names", "way", "cell", "entries", "name", "found"]) (sc := defScope sLawForms) (by decide +kernel)) (fun _ _ _ _ _ => (pg_name (i := 5) scLawForms.nd rfl (by first | exact Or.inl rfl | exact Or.inr rfl))) (fun _ _ _ _ _ => pts_nil) (fun _ _ _ _ _ => (pe_callH HSp (hr.mono (by decide)) rfl (pa_cons (pv 2) (pa_cons (pv 6) (pa_cons (pv 5) pa_nil))))))
      (C8.pss_cut (ps_if (pt_cmpR op_eq (pv 4) pe_int (nomark _)) (pss_one (ps_asg (pe_ix ix_list (pv 3) (pe_callH HT (hr.mono (by decide)) rfl (pa_cons (pv 0) (pa_cons (pe_callB call_len rfl T.len PySem.boot_len (pa_cons (pv 3) pa_nil)) pa_nil))) (fun _ _ => rfl)) (pg_sub (pv 8) (pe_callH HT (hr.mono (by decide)) rfl (pa_cons (pv 0) (pa_cons (pe_callB call_len rfl T.len PySem.boot_len (pa_cons (pv 8) pa_nil)) pa_nil))) set_list))) pss_nil)
      (pss_one (ps_ret (pv 8)))))))))), ?_⟩
    have lcy := Paired.length mc
    have cpos : 0 < cells.length := List.length_pos_iff.mpr cne
    refine ⟨fun σ' H1 => ∃ (qn : Addr) (zs : List Str), H1 qn = some (.lst (zs.map V.str)) ∧ 1 ≤ zs.length ∧ zs.length ≤ 5 ∧ (∀ z ∈ zs, z ∈ nm13) ∧ H qn = none ∧ Dice H1 a ld ∧ Fr a H H1 ∧ σ' = [some (.ref a), some (.ref pc), some (.str man), some (.ref qn), none, none, none, none, none], ?_, ?_⟩
    · refine ⟨_, rfl, _, rfl, a, ld, 5, rfl, hd, by decide, by decide, fun d H1 d0 d1 hd1 f1 => ?_⟩
      refine ⟨_, _, rfl, rfl, a, ld, 1 + d, rfl, hd1, by omega, by omega, fun q zs H2 eq lz mz free hd2 f2 => ?_⟩
      exact ⟨q, zs, eq, by omega, by omega, mz, hd1.free f1 free, hd2, f1.trans f2, rfl⟩
    rintro σ' H1 ⟨qn, zs, en, z1, z5, mz, fqn, hd1, f1, rfl⟩
    have nqn := hd.ne fqn
    have mqn := hd.ne' fqn
    refine ⟨fun σ' H2 => ∃ way : Int, H2 qn = some (.lst (zs.map V.str)) ∧ Dice H2 a ld ∧ Fr a H H2 ∧ σ' = [some (.ref a), some (.ref pc), some (.str man), some (.ref qn), some (.int way), none, none, none, none], ?_, ?_⟩
    · exact ⟨_, rfl, a, ld, 4, rfl, hd1, by decide, by decide, fun d H2 d0 d1 hd2 f2 => ⟨d, f2 _ _ en nqn, hd2, f1.trans f2, rfl⟩⟩
    clear en hd1 f1 H1
    rintro σ' H2 ⟨way, en, hd2, f2, rfl⟩
    have npc : pc ≠ a := by
      obtain ⟨ys, e⟩ := hd.is
      exact ne_of hc e (by intro z; cases z)
    have zl : (zs.map V.str).length = zs.length := List.length_map _
    have name_at : ∀ {d : Int}, 0 ≤ d → d < (zs.length : Int) → ∃ z, (zs.map V.str)[d.toNat]? = some (V.str z) ∧ z ∈ zs := fun {d} d0 d1 => ⟨zs[d.toNat]'(by omega), by rw [List.getElem?_map, List.getElem?_eq_getElem (by omega)]; rfl, List.getElem_mem _⟩
    refine ⟨fun σ' H3 => H3 = H2 ∧ σ' = [some (.ref a), some (.ref pc), some (.str man), some (.ref qn), some (.int way), none, none, none, none], ?_, ?_⟩
    · refine ⟨_, rfl, rfl, _, rfl, ?_⟩
      refine ite2 (fun _ => ?_) (fun _ => ⟨rfl, rfl⟩)
      have cp2 := f2 _ _ hc npc
      refine ⟨_, rfl, pc, rfl, ⟨_, sqT cp2⟩, fun D hD => ?_⟩
      have hD0 := hd2.free f2 hD
      have nD := hd.ne hD0
      have mD := hd.ne' hD0
      refine lc_tup (K := K) (a := pc) (xs := cy) (fun i H4 => ∃ fs : List (Option Str), H4 D = some (.lst (fs.map formV)) ∧ fs.length = i ∧ (∀ z, some z ∈ fs → z ∈ zs) ∧ H4 pc = some (.tup cy) ∧ H4 qn = some (.lst (zs.map V.str)) ∧ Dice H4 a ld ∧ Fr a H H4) ⟨[], upd_same, rfl, nofun, (Same.new hD) _ _ cp2, (Same.new hD) _ _ en, hd2.keep (Same.new hD), f2.trans (Fr.new hD)⟩ (fun i H4 _ ⟨_, _, _, _, e, _⟩ => sqT e) ?_ ?_
      · rintro i x H4 hi ⟨fs, e4, lf, mf, cp4, en4, hd4, f4⟩
        have lt := (List.getElem?_eq_some_iff.mp hi).1
        refine ⟨rfl, _, rfl, _, rfl, _, rfl, _, zs.length, rfl, .inl ⟨_, SqL.of en4, zl.symm⟩, a, ld, _, rfl, hd4, by omega, by omega, fun d H5 d0 d1 hd5 f5 => ?_⟩
        obtain ⟨z, ez, hz⟩ := name_at d0 d1
        have e5 := f5 _ _ e4 nD
        refine ⟨qn, _, _, _, rfl, rfl, SqL.of (f5 _ _ en4 nqn), at_of (j := d.toNat) (by omega) ez, ?_⟩
        have pD : pc ≠ D := ne_of_none hc hD0
        have qD : qn ≠ D := ne_of_none en hD
        refine ⟨_, e5, by rw [List.length_map]; exact small1000 (by omega), fs ++ [some z], by rw [upd_same, List.map_append]; rfl, by rw [List.length_append, lf]; rfl, fun y hy => ?_, by rw [upd_ne pD]; exact f5 _ _ cp4 npc, by rw [upd_ne qD]; exact f5 _ _ en4 nqn, hd5.put nD mD, fun b o h n => by rw [upd_ne (ne_of_none h hD0)]; exact f5 _ _ (f4 _ _ h n) n⟩
        rcases List.mem_append.mp hy with h | h
        · exact mf y h
        · cases List.mem_singleton.mp h; exact hz
      · rintro H4 ⟨fs, e4, lf, mf, cp4, en4, hd4, f4⟩
        exact k D fs zs H4 e4 (by omega) mf z5 mz hD0 hd4 f4
    rintro σ' H3 ⟨rfl, rfl⟩
    refine ⟨fun σ' H4 => ∃ qe : Addr, H4 qe = some (.lst []) ∧ H qe = none ∧ qe ≠ qn ∧ H4 qn = some (.lst (zs.map V.str)) ∧ Dice H4 a ld ∧ Fr a H H4 ∧ σ' = [some (.ref a), some (.ref pc), some (.str man), some (.ref qn), some (.int way), none, some (.ref qe), none, none], ?_, ?_⟩
    · exact ⟨Nat.zero_le _, fun qe hqe => ⟨qe, upd_same, hd2.free f2 hqe, (ne_of_none en hqe).symm, (Same.new hqe) _ _ en, hd2.keep (Same.new hqe), f2.trans (Fr.new hqe), rfl⟩⟩
    rintro σ' H4 ⟨qe, ee, fqe, nqe, en4, hd4, f4, rfl⟩
    clear en hd2 f2
    have nqa := hd.ne fqe
    have mqa := hd.ne' fqe
    have pqe : pc ≠ qe := ne_of_none hc fqe
    refine ⟨fun σ' H5 => ∃ (ys : List V) (es : List Ent), H5 qe = some (.lst ys) ∧ Ents H5 ys es ∧ es.length = zs.length ∧ (∀ e ∈ es, e.2 ∈ zs) ∧ (∀ e ∈ es, e.1.length ≤ 6) ∧ H5 qn = some (.lst (zs.map V.str)) ∧ Dice H5 a ld ∧ Fr a H H5 ∧ ∃ o7 : Option V, σ' = [some (.ref a), some (.ref pc), some (.str man), some (.ref qn), some (.int way), none, some (.ref qe), o7, none], ?_, ?_⟩
    · refine ⟨_, rfl, qn, rfl, ⟨_, SqL.of en4⟩, ?_⟩
      refine for_list (K := K) (a := qn) (xs := zs.map V.str) (fun i σ H5 => ∃ (ys : List V) (es : List Ent), H5 qe = some (.lst ys) ∧ Ents H5 ys es ∧ es.length = i ∧ (∀ e ∈ es, e.2 ∈ zs) ∧ (∀ e ∈ es, e.1.length ≤ 6) ∧ H5 qn = some (.lst (zs.map V.str)) ∧ Dice H5 a ld ∧ Fr a H H5 ∧ ∃ o7 : Option V, σ = [some (.ref a), some (.ref pc), some (.str man), some (.ref qn), some (.int way), none, some (.ref qe), o7, none])
        ⟨[], [], ee, .nil, rfl, nofun, nofun, en4, hd4, f4, _, rfl⟩ (fun i σ H5 _ ⟨_, _, _, _, _, _, _, e, _⟩ => SqL.of e) ?_ ?_
      · rintro i x σ H5 hi ⟨ys, es, e5, en5, le, mem, short, eq5, hd5, f5, o7, rfl⟩
        rw [List.getElem?_map] at hi
        obtain ⟨z, hz, rfl⟩ := Option.map_eq_some_iff.mp hi
        have lt := (List.getElem?_eq_some_iff.mp hz).1
        have zin := List.mem_of_getElem? hz
        have cp5 := f5 _ _ hc npc
        refine ⟨_, rfl, .inl ⟨rfl, _, SqL.of e5⟩, _, rfl, _, rfl, _, rfl, _, rfl, _, cy.length, rfl, .inr ⟨_, sqT cp5, rfl⟩, a, ld, _, rfl, hd5, by omega, by omega, fun d H6 d0 d1 hd6 f6 => ?_⟩
        have lj : d.toNat < cy.length := by omega
        have gc : cy[d.toNat]? = some cy[d.toNat] := List.getElem?_eq_getElem lj
        have cp6 := f6 _ _ cp5 npc
        have fr6 := f5.trans f6
        obtain ⟨c, ec, mcell⟩ := Paired.get (mc.keep (hd.tfr fr6)) gc
        have okc := cok c (List.mem_of_getElem? ec)
        refine ⟨pc, _, _, _, rfl, rfl, sqT cp6, at_of (j := d.toNat) (by omega) gc, .inl ⟨a, ld, _, c, rfl, hd6, mcell, Nat.le_trans (marks_few okc) (by decide), fun u ks H7 mu sub hd7 f7 => ?_⟩⟩
        have fr7 := fr6.trans f7
        refine ⟨_, rfl, by show 2 ≤ sizeLine; decide, fun t ht => ?_⟩
        have s8 : Same H7 (upd H7 t (.tup [u, .str z])) := Same.new ht
        have e8 : (upd H7 t (.tup [u, .str z])) t = some (.tup [u, .str z]) := upd_same
        generalize upd H7 t (.tup [u, .str z]) = H8 at *
        have e5' := s8 _ _ (f7 _ _ (f6 _ _ e5 nqa) nqa)
        have en8 : Ents H8 ys es := Ents.keep (TFr.same s8) (Ents.keep (hd6.tfr f7) (Ents.keep (hd5.tfr f6) en5))
        have eq8 := s8 _ _ (f7 _ _ (f6 _ _ eq5 nqn) nqn)
        have mu8 : Xci.Mk H8 u ks := Tup.keep (TFr.same s8) mu
        have ly : ys.length ≤ 5 := by rw [Paired.length en5]; omega
        refine ⟨qe, _, _, rfl, rfl, e5', small1000 (by omega), ys ++ [.ref t], es ++ [(ks, z)], upd_same, ?_, by rw [List.length_append, le]; rfl, fun e he => ?_, fun e he => ?_, by rw [upd_ne nqe.symm]; exact eq8, (hd7.keep s8).put nqa mqa, fun b o h n => by rw [upd_ne (ne_of_none h fqe)]; exact s8 _ _ (fr7 _ _ h n), _, rfl⟩
        · have tf : TFr H8 (upd H8 qe (.lst (ys ++ [.ref t]))) := TFr.lst e5'
          exact Paired.app (Ents.keep tf en8) (Paired.one ⟨u, ⟨t, rfl, tf _ _ e8⟩, Tup.keep tf mu8⟩)
        · rcases List.mem_append.mp he with h | h
          · exact mem e h
          · rw [List.mem_singleton.mp h]; exact zin
        · rcases List.mem_append.mp he with h | h
          · exact short e h
          · rw [List.mem_singleton.mp h]; exact Nat.le_trans sub.length_le (marks_few okc)
      · rintro σ H5 ⟨ys, es, e5, en5, le, mem, short, eq5, hd5, f5, o7, rfl⟩
        exact ⟨ys, es, e5, en5, by rw [le, zl], mem, short, eq5, hd5, f5, _, rfl⟩
    clear en4 hd4 f4 ee H4
    rintro σ' H5 ⟨ys, es, e5, en5, le, mem, short, eq5, hd5, f5, o7, rfl⟩
    refine ⟨fun σ' H6 => ∃ (D : Addr) (fs : List (Option Str)), H6 D = some (.lst (fs.map formV)) ∧ fs.length = cells.length ∧ (∀ z, some z ∈ fs → z ∈ zs) ∧ H D = none ∧ D ≠ qn ∧ H6 qn = some (.lst (zs.map V.str)) ∧ Dice H6 a ld ∧ Fr a H H6 ∧ σ' = [some (.ref a), some (.ref pc), some (.str man), some (.ref qn), some (.int way), none, some (.ref qe), o7, some (.ref D)], ?_, ?_⟩
    · have cp5 := f5 _ _ hc npc
      refine ⟨_, rfl, pc, rfl, ⟨_, sqT cp5⟩, fun D hD => ?_⟩
      refine lc_tup (K := K) (a := pc) (xs := cy) (fun i H6 => ∃ fs : List (Option Str), Same H5 H6 ∧ H6 D = some (.lst (fs.map formV)) ∧ fs.length = i ∧ ∀ z, some z ∈ fs → z ∈ zs) ⟨[], Same.new hD, upd_same, rfl, nofun⟩ (fun i H6 _ ⟨_, e, _⟩ => sqT (e _ _ cp5)) ?_ ?_
      · rintro i x H6 hi ⟨fs, s6, e6, lf, mf⟩
        have lt := (List.getElem?_eq_some_iff.mp hi).1
        obtain ⟨c, ec, mcell⟩ := Paired.get ((mc.keep (hd.tfr f5)).keep (TFr.same s6)) hi
        have okc := cok c (List.mem_of_getElem? ec)
        refine ⟨rfl, _, rfl, _, rfl, _, rfl, man, qe, ys, es, x, c, rfl, s6 _ _ e5, Ents.keep (TFr.same s6) en5, fun e he => Nat.le_trans (short e he) (by decide), by omega, mcell, Nat.le_trans (marks_few okc) (by decide), fun fo H7 told s7 => ?_⟩
        refine ⟨_, s7 _ _ e6, by rw [List.length_map]; exact small1000 (by omega), fs ++ [fo], fun b o h => by rw [upd_ne (ne_of_none h hD)]; exact s7 _ _ (s6 b o h), by rw [upd_same, List.map_append]; rfl, by rw [List.length_append, lf]; rfl, fun y hy => ?_⟩
        rcases List.mem_append.mp hy with h | h
        · exact mf y h
        · obtain ⟨e, he, ez⟩ := List.mem_map.mp (told y (List.mem_singleton.mp h).symm)
          rw [← ez]; exact mem e he
      · rintro H6 ⟨fs, s6, e6, lf, mf⟩
        exact ⟨D, fs, e6, by omega, mf, hd5.free f5 hD, (ne_of_none eq5 hD).symm, s6 _ _ eq5, hd5.keep s6, f5.trans (Fr.same s6), rfl⟩
    rintro σ' H6 ⟨D, fs, e6, lf, mf, fD, nDq, eq6, hd6, f6, rfl⟩
    clear e5 en5 eq5 hd5 f5 H5
    have nD := hd.ne fD
    have mD := hd.ne' fD
    refine ⟨fun σ' H7 => ∃ fs : List (Option Str), H7 D = some (.lst (fs.map formV)) ∧ fs.length = cells.length ∧ (∀ z, some z ∈ fs → z ∈ zs) ∧ Dice H7 a ld ∧ Fr a H H7 ∧ σ' = [some (.ref a), some (.ref pc), some (.str man), some (.ref qn), some (.int way), none, some (.ref qe), o7, some (.ref D)], ?_, ?_⟩
    · refine ⟨_, rfl, rfl, _, rfl, ?_⟩
      refine ite2 (fun _ => ?_) (fun _ => ⟨fs, e6, lf, mf, hd6, f6, rfl⟩)
      refine ⟨_, rfl, _, rfl, _, rfl, _, zs.length, rfl, .inl ⟨_, SqL.of eq6, zl.symm⟩, a, ld, _, rfl, hd6, by omega, by omega, fun d H7 d0 d1 hd7 f7 => ?_⟩
      obtain ⟨z, ez, hz⟩ := name_at d0 d1
      refine ⟨qn, _, _, _, rfl, rfl, SqL.of (f7 _ _ eq6 nqn), at_of (j := d.toNat) (by omega) ez, ?_⟩
      have e7 := f7 _ _ e6 nD
      refine ⟨_, rfl, _, rfl, _, rfl, _, fs.length, rfl, .inl ⟨_, SqL.of e7, by rw [List.length_map]⟩, a, ld, _, rfl, hd7, by omega, by omega, fun d' H8 g0 g1 hd8 f8 => ?_⟩
      have e8 := f8 _ _ e7 nD
      refine ⟨D, _, d', d'.toNat, rfl, rfl, e8, ?_, ?_⟩
      · unfold ixN
        rw [if_pos g0, if_pos (by rw [List.length_map]; exact g1)]
      · refine ⟨fs.set d'.toNat (some z), by rw [upd_same, List.map_set]; rfl, by rw [List.length_set]; exact lf, fun y hy => ?_, hd8.put nD mD, fun b o h n => by rw [upd_ne (ne_of_none h fD)]; exact f8 _ _ (f7 _ _ (f6 _ _ h n) n) n, rfl⟩
        rcases List.mem_or_eq_of_mem_set hy with h | h
        · exact mf y h
        · cases h; exact hz
    rintro σ' H7 ⟨fs', e7, lf', mf', hd7, f7, rfl⟩
    exact ⟨_, rfl, k D fs' zs H7 e7 lf' mf' z5 mz fD hd7 f7⟩
end
end Xci

namespace Xci
open PySem PySem.Spec PyProof.Rows L2
/-! set(a list of texts) -/
/-- so many unlike texts stand in the list -/
def Count (xs : List Str) (c : Nat) : Prop := ∃ us : List Str, us.Nodup ∧ (∀ z, z ∈ us ↔ z ∈ xs) ∧ us.length = c
theorem Count.le {xs : List Str} {c : Nat} (h : Count xs c) : c ≤ xs.length := by
  obtain ⟨us, nd, mem, rfl⟩ := h
  exact List.Nodup.length_le_of_subset nd fun z hz => (mem z).mp hz
theorem Count.next {xs : List Str} {c i : Nat} {x : Str} (h : Count (xs.take i) c) (ex : xs[i]? = some x) : Count (xs.take (i + 1)) (if decide (x ∈ xs.take i) = true then c else c + 1) := by
  obtain ⟨us, nd, mem, rfl⟩ := h
  have tk : xs.take (i + 1) = xs.take i ++ [x] := by rw [List.take_add_one, ex]; rfl
  by_cases q : x ∈ xs.take i
  · rw [if_pos (decide_eq_true q)]
    refine ⟨us, nd, fun z => ?_, rfl⟩
    rw [mem, tk, List.mem_append, List.mem_singleton]
    exact ⟨.inl, fun h => h.elim id fun e => e ▸ q⟩
  · rw [if_neg (by rw [decide_eq_false q]; exact Bool.false_ne_true)]
    refine ⟨us ++ [x], List.nodup_append.mpr ⟨nd, List.pairwise_singleton .., fun a ha b hb e => ?_⟩, fun z => ?_, List.length_append⟩
    · rw [List.mem_singleton.mp hb] at e
      exact q ((mem x).mp (e ▸ ha))
    · rw [tk, List.mem_append, List.mem_append, mem]
section
variable {P : Program} {w : World} {A : Around} {E : Value → Shared → Prop} {s : Shared}
/-- the texts that a walk yields are put into the set at S, one by one -/
theorem texts_fed {I S : Addr} {fp wr : List Addr} {G : Array GenState → Array GenState → Prop} {n : Nat} {Pv : Nat → Value → Prop} {St : Nat → Shared → Prop} {R : Result → Shared → Prop} {xs : List Str}
    (W : WalksS P w A.in1 I fp wr G n Pv St) (off : S ∉ fp) (len : n = xs.length) (room : n + 1 < scanBound) (item : ∀ i v, Pv i v → ∃ x t, xs[i]? = some x ∧ v = .str x t) :
    ∀ (left i : Nat) (s : Shared), i + left = n → St i s → (∃ c, Count (xs.take i) c ∧ SetL (PySem.strKind P w) s.heap S (fun j => decide (j ∈ xs.take i)) c) →
      (∀ s' c, Moved (S :: wr) G s s' → Count xs c → SetL (PySem.strKind P w) s'.heap S (fun j => decide (j ∈ xs)) c → R (.ok (.ret .none)) s') → codeAny (model P w) A (.builtin "set.update.loop" ⟨[.ref S, .ref I], []⟩) R s := by
  have offw : S ∉ wr := fun h => off (W.sub _ h)
  have more : ∀ b ∈ wr, b ∈ S :: wr := fun b => List.mem_cons_of_mem _
  intro left
  induction left with
  | zero =>
    rintro i s e st ⟨c, le, at0⟩ ends
    obtain rfl : i = n := e
    refine codeAny_builtin F.entry_set_update_loop (by
      rw [Around.under_plainId F.plain_set_update_loop _]
      show wpAny (model P w) A.in1 (pyNext (.ref I) >>= _) _ _ s
      refine wpAny_bind (W.done s _ _ st fun s' mv => ?_)
      show wpAny (model P w) A.in1 (ret Value.none) _ _ s'
      refine wpAny_pure ?_
      have all : xs.take i = xs := List.take_of_length_le (Nat.le_of_eq len.symm)
      rw [all] at at0 le
      exact ends s' c (mv.mono more) le (at0.keep fun o => mv.heap S o offw))
  | succ left ih =>
    rintro i s e st ⟨c, le, at0⟩ ends
    have lt : i < n := by omega
    refine codeAny_builtin F.entry_set_update_loop (by
      rw [Around.under_plainId F.plain_set_update_loop _]
      show wpAny (model P w) A.in1 (pyNext (.ref I) >>= _) _ _ s
      refine wpAny_bind (W.item i s _ _ lt st fun v s1 pv st1 mv => ?_)
      obtain ⟨x, t, ex, rfl⟩ := item i v pv
      have at1 := at0.keep (h' := s1.heap) fun o => mv.heap S o offw
      have small := le.le
      have short : (xs.take i).length ≤ i := List.length_take_le _ _
      show wpAny _ A.in1 (holding [Value.str x t] (setAdd S (.str x t)) >>= _) _ _ s1
      unfold setAdd
      refine wpAny_bind (wpAny_holding (wpAny_holding (wpAny_bind ((PySem.strKind P w).pyHash (k := x) (PySem.strKind_is _ _ x t) (SetL.add (s := { s1 with toks := s1.toks + 1 }) (PySem.strKind_is _ _ x t) rfl at1 (by omega) fun h' only at2 => ?_)))))
      have told : (fun j => decide (j ∈ xs.take i) || decide (j = x)) = fun j => decide (j ∈ xs.take (i + 1)) := funext fun j => by
        rw [List.take_add_one, ex, Bool.eq_iff_iff, Bool.or_eq_true, decide_eq_true_iff, decide_eq_true_iff, decide_eq_true_iff, List.mem_append]
        exact or_congr Iff.rfl List.mem_singleton.symm
      rw [told] at at2
      have le2 := le.next ex
      have other : ∀ b o, b ≠ S → s1.heap.get? b = some o → h'.get? b = some o := fun b o nb z => (only.2 b nb).trans z
      exact wpAny_pure ⟨plainId_quiet F.plain_set_update_loop _, ih (i + 1) _ (by omega) (W.frame _ s1 _ _ st1 (Nat.le_succ _) fun b hb o z => other b o (fun q => off (q ▸ hb)) z) ⟨_, le2, at2⟩ fun s2 c2 mv2 le3 at3 =>
        ends s2 c2 (Moved.trans W.gtrans ((mv.mono more).then_heap (Nat.le_succ _) fun b o hb z => other b o (fun q => hb (q ▸ List.mem_cons_self)) z) mv2) le3 at3⟩)
set_option maxHeartbeats 3200000 in
theorem set_of_texts {l : Addr} {items : Array Value} {xs : List Str} {Q : Value → Shared → Prop} (hh : A.handled = none) (p : s.heap.IsList l items) (row : StrsAre items.toList xs) (room : xs.length + 1 < scanBound)
    (q : ∀ h' tk c, SetL (PySem.strKind P w) h' s.heap.objs.size (fun j => decide (j ∈ xs)) c → Count xs c → (∀ b o, s.heap.get? b = some o → h'.get? b = some o) → Q (.ref s.heap.objs.size) { s with heap := h', toks := tk }) :
    wpAny (model P w) A (call (.type "set") [.ref l]) Q E s := by
  refine made_and_filled F.called_set (F.typeCall_set_1 _) (code_set_led1 (Q₁ := fun v s1 => v = .ref s.heap.objs.size ∧ s1 = { s with heap := s.heap.push (emptyO w) }) (.ref l) ⟨rfl, rfl⟩) ?_
  rintro _ _ ⟨rfl, rfl⟩
  have new : (s.heap.push (emptyO w)).get? s.heap.objs.size = some (emptyO w) := Heap.get?_push_size _ rfl
  refine ⟨⟨_, new, rfl⟩, codeAny_call_builtin F.called_set.init.plain F.entry_set_init (check_set_init_1 ⟨_, new, rfl⟩ ?_)⟩
  have old : ∀ b o, s.heap.get? b = some o → (s.heap.push (emptyO w)).get? b = some o := fun b o => Heap.get?_push_of_some _
  obtain ⟨o, at0, c0, n0, d0⟩ := id p
  obtain ⟨oc, od, odat, osl⟩ := o
  cases c0
  cases d0
  have lst : (s.heap.push (emptyO w)).IsList l items := ⟨_, old _ _ at0, rfl, n0, rfl⟩
  have at1 := old _ _ at0
  have noSet := F.sub_list_set
  have noFrozen := F.sub_list_frozenset
  have noDict : (Value.type "list" == Value.type "dict") = false := by decide
  unfold Builtin.«set.__init__» noKeywords Builtin.Frozenset.updateFrom
  generalize iterates : pyIter = PI
  wp_walk
  subst iterates
  refine wpAny_pyIter_list lst ?_
  refine wpAny_bind (wpAny_runValue ?_)
  have size1 : (s.heap.push (emptyO w)).objs.size = s.heap.objs.size + 1 := Heap.size_push ..
  have lt := Heap.lt_size at0
  have count : items.size = xs.length := by rw [← Array.length_toList, StrsAre.len_eq row]
  have W := (Walks.list (prog := P) (w := w) (A := A.in1.in1.in1) (show A.in1.in1.in1.handled = none from hh) (s.heap.objs.size + 1) l (Nat.ne_of_lt (Nat.lt_succ_of_lt lt)) items).toS
  show codeAny _ _ (.builtin "set.update.loop" ⟨[.ref s.heap.objs.size, .ref (s.heap.push (emptyO w)).objs.size], []⟩) _ _
  rw [size1]
  refine texts_fed W ?_ count (by rw [count]; exact room) (fun i v e => ?_) items.size 0 _ (Nat.zero_add _) ?_ ⟨0, ⟨[], List.nodup_nil, fun z => by simp, rfl⟩, ?_⟩ fun s' c moved le R => ?_
  · intro z
    rcases List.mem_cons.mp z with z | z
    · exact absurd z (Nat.ne_of_lt (Nat.lt_succ_self _))
    · exact absurd (List.mem_singleton.mp z) (Nat.ne_of_gt lt)
  · have z := e
    rw [← Array.getElem?_toList] at z
    obtain ⟨y, ey, ry⟩ := Paired.get' (vals_texts row) z
    rw [List.getElem?_map] at ey
    obtain ⟨x, ex, rfl⟩ := Option.map_eq_some_iff.mp ey
    obtain ⟨t, rfl⟩ := ry
    exact ⟨x, t, ex, rfl⟩
  · refine ⟨⟨{ cls := .type "list_iterator", data := .fields #[.ref l, .int 0 0] }, ?_, rfl, rfl⟩, lst.push _⟩
    rw [← size1]
    exact Heap.get?_push_size _ rfl
  · have none_ : (fun j : Str => decide (j ∈ xs.take 0)) = fun _ => false := funext fun j => by simp
    rw [none_]
    exact SetL.keep (SetL.none (kind := PySem.strKind P w)) fun o => Heap.get?_push_of_some _
  · obtain ⟨h', g', d', tk', os'⟩ := s'
    have away : ∀ b o, s.heap.get? b = some o → b ∉ [s.heap.objs.size, s.heap.objs.size + 1] := fun b o z q => by
      have := Heap.lt_size z
      rcases List.mem_cons.mp q with q | q
      · rw [q] at this; exact Nat.lt_irrefl _ this
      · rw [List.mem_singleton.mp q] at this; exact absurd this (Nat.not_lt.mpr (Nat.le_succ _))
    have kept : ∀ b o, s.heap.get? b = some o → h'.get? b = some o := fun b o z => moved.heap b o (away b o z) (Heap.get?_push_of_some _ (old b o z))
    obtain rfl : g' = s.gens := moved.gens
    obtain rfl : d' = s.drawn := moved.drawn
    obtain rfl : os' = s.os := moved.os
    exact wpAny_pure (wpAny_pure ⟨rfl, q h' tk' c R le kept⟩)
end
/-- set(x), x a list of texts -/
def rSetTexts (K : PySem.W.Frag) (P : Program) (w : World) : List V → Hp → VK → Prop := fun vs H Q => ∃ (l : Addr) (xs : List Str), vs = [V.ref l] ∧ SqL K H l (xs.map V.str) ∧ xs.length ≤ 1000 ∧
  ∀ (a : Addr) (c : Nat), Count xs c → H a = none → Q (.ref a) (upd H a (TextsO P w a (fun j => decide (j ∈ xs)) c))
theorem cr_setTexts {X : Cx} (calm : X.calm = true) : CallR X (.type "set") (rSetTexts X.K X.prog X.w) := by
  intro pins s σ H vs us Q I rv told
  obtain ⟨l, xs, rfl, sq, few, q⟩ := told
  rw [Vals.ref1 rv]
  obtain ⟨its, vals, lst, _⟩ := I.list sq
  have free : H s.heap.objs.size = none := I.hok.fresh (Nat.le_refl _)
  refine set_of_texts (I.ok.hd calm) lst.isList (xs := xs) (by simpa using vals.strs) (Nat.lt_of_le_of_lt (Nat.succ_le_succ few) (by decide)) fun h' tk c R le kept => ?_
  exact ⟨.ref _, _, I.laid (t' := tk) kept (Nat.le_refl _) (texts_new R), rfl, q _ c le free⟩
end Xci

namespace Xci
open PySem L2
/-- all masks together -/
def pot (F : List Str) (x : Str → Nat) : Nat := (F.map x).sum
theorem pot_same {F : List Str} {x y : Str → Nat} (h : ∀ z ∈ F, x z = y z) : pot F x = pot F y := by
  unfold pot
  rw [List.map_congr_left h]
theorem pot_set {x : Str → Nat} {z : Str} {n : Nat} (l : n < x z) : ∀ {F : List Str}, F.Nodup → z ∈ F → pot F (setX x z n) < pot F x
  | [], _, h => nomatch h
  | y :: r, nd, h => by
    obtain ⟨n1, n2⟩ := List.nodup_cons.mp nd
    show setX x z n y + pot r (setX x z n) < x y + pot r x
    by_cases e : y = z
    · subst e
      rw [setX_at, pot_same (x := setX x y n) (y := x) fun u hu => setX_ne fun e' => n1 (by rw [← e']; exact hu)]
      omega
    · rw [setX_ne e]
      have := pot_set l n2 ((List.mem_cons.mp h).elim (fun q => absurd q.symm e) id)
      omega
theorem pot_le {x : Str → Nat} : ∀ {F : List Str}, (∀ z ∈ F, x z < 64) → pot F x ≤ 64 * F.length
  | [], _ => Nat.le_refl _
  | y :: r, h => by
    show x y + pot r x ≤ 64 * (r.length + 1)
    have := pot_le (F := r) fun z hz => h z (List.mem_cons_of_mem _ hz)
    have := h y List.mem_cons_self
    omega
def struck (x : Str → Nat) (z o : Str) (c : List Int) : Prop := x z &&& maskN c = x z ∧ x z &&& x o ≠ x z
/-- no strike among the first i rows -/
def Quiet (cells : List (List Int)) (fs : List (Option Str)) (F : List Str) (x : Str → Nat) (i : Nat) : Prop := ∀ j < i, ∀ c o, cells[j]? = some c → fs[j]? = some (some o) → ∀ z ∈ F, ¬ struck x z o c
theorem Quiet.still {cells : List (List Int)} {fs : List (Option Str)} {F : List Str} {x : Str → Nat} (N : Names (rowsOf cells fs) F) (ok : ∀ c ∈ cells, MarksOk 6 c) (h : Quiet cells fs F x fs.length) : Still (rowsOf cells fs) fun z => hasB (x z) := by
  intro z nz r hr w m hm
  obtain ⟨i, h1, h2⟩ := rows_mem.mp hr
  have cok := ok r.1 (List.mem_of_getElem? h1)
  have q := h i (List.getElem?_eq_some_iff.mp h2).1 r.1 r.2 h1 h2 z ((N.mem z).mpr nz)
  have a : x z &&& maskN r.1 = x z := and_sub.mpr fun k hk => (has_mask cok.up cok.lo k).mpr (w k hk)
  by_cases e : x z &&& x r.2 = x z
  · exact and_sub.mp e m hm
  · exact absurd ⟨a, e⟩ q
theorem Under.hit {cells : List (List Int)} {fs : List (Option Str)} {F : List Str} {x : Str → Nat} {z o : Str} {c : List Int} {i : Nat} (U : Under (rowsOf cells fs) fun z => hasB (x z)) (N : Names (rowsOf cells fs) F) (ok : ∀ c ∈ cells, MarksOk 6 c) (zF : z ∈ F) (h1 : cells[i]? = some c) (h2 : fs[i]? = some (some o)) (s : struck x z o c) :
    Under (rowsOf cells fs) fun y => hasB (setX x z (x z &&& x o) y) := by
  have cok := ok c (List.mem_of_getElem? h1)
  refine U.strike ((N.mem z).mp zF) (r := (c, o)) (rows_mem.mpr ⟨i, h1, h2⟩) (fun m hm => (has_mask cok.up cok.lo m).mp (and_sub.mp s.1 m hm)) (fun m => ?_) fun y hy m => ?_
  · show hasB (setX x z (x z &&& x o) z) m ↔ _
    rw [setX_at, has_and]
  · show hasB (setX x z (x z &&& x o) y) m ↔ _
    rw [setX_ne hy]
theorem AreShared.small {cells : List (List Int)} {fs : List (Option Str)} {F : List Str} {x : Str → Nat} (N : Names (rowsOf cells fs) F) (S : AreShared (rowsOf cells fs) F x) (ok : ∀ c ∈ cells, MarksOk 6 c) : ∀ z ∈ F, x z < 64 := by
  intro z hz
  refine Nat.lt_pow_two_of_testBit (n := 6) _ fun i hi => ?_
  cases q : (x z).testBit i with
  | false => rfl
  | true =>
    have := (S z hz (i : Int)).mp ⟨by omega, by rw [Int.toNat_natCast]; exact q⟩
    obtain ⟨r, hr, e⟩ := (N.mem z).mp hz
    obtain ⟨j, h1, _⟩ := rows_mem.mp hr
    have := (ok r.1 (List.mem_of_getElem? h1)).hi _ (this r hr e)
    omega
section
variable {P : Program} {w : World} {K : PySem.W.Frag} {mg : Str → Option Value} {base : Heap}
abbrev sShrink : Stmt := top 20
theorem scShrink : FnScope ["lots", "forms", "left", "names", "done", "before", "number", "other", "form"] ["lots", "forms"] (defScope sShrink) := ⟨rfl, rfl, rfl, by decide +kernel, rfl, by decide +kernel, by decide +kernel⟩
set_option maxHeartbeats 8000000 in
theorem ok_shrink {f : Addr} {fd : FuncData} (F : Fun K "shrink" "shrink" sShrink f fd) (T : Txt mg) (HCb : Has P w K mg base "common_bits" ["lots", "forms"] 1 (spCommonBits false)) (HSt : Has P w K mg base "_is_struck" ["left", "form", "other", "lot"] 1 spStruck) : FnOk P w K mg base CX0 2 f fd ["lots", "forms"] (spShrink false) := by
  refine F.ok scShrink (fun vs H Q E h => ?_) (fun cdv A outer s H vs Q E hr h => ?_)
  · obtain ⟨q, p, cells, fs, rfl, _⟩ := h
    rfl
  · obtain ⟨q, p, cells, fs, rfl, L, k⟩ := h
    refine ⟨_, (pss_cons (ps_set (i := 2) scShrink.nd rfl (by first | exact Or.inl rfl | exact Or.inr rfl) (pe_callH HCb (hr.mono (by decide)) rfl (pa_cons (pv 0) (pa_cons (pv 1) pa_nil))))
      (pss_cons (ps_set (i := 3) scShrink.nd rfl (by first | exact Or.inl rfl | exact Or.inr rfl) (pe_callTy (call_list_dK rfl) rfl T.list (by decide +kernel) (pa_cons (pv 2) pa_nil)))
      (pss_cons (ps_set (i := 4) scShrink.nd rfl (by first | exact Or.inl rfl | exact Or.inr rfl) (pe_lst pa_nil))
      (pss_cons (ps_set (i := 5) scShrink.nd rfl (by first | exact Or.inl rfl | exact Or.inr rfl) (pe_un un_neg pe_int))
      (pss_cons (ps_while PassesOwn.never (pt_cmpR op_lt (pv 5) (pe_callB call_len rfl T.len PySem.boot_len (pa_cons (pv 4) pa_nil)) (nomark _)) (C8.pss_cut (ps_set (i := 5) scShrink.nd rfl (by first | exact Or.inl rfl | exact Or.inr rfl) (pe_callB call_len rfl T.len PySem.boot_len (pa_cons (pv 4) pa_nil)))
      (pss_one (ps_for PassesOwn.never rfl (pi_enumT rfl T.enumerate (pa_cons (pv 1) pa_nil)) (pg_tup rfl (pgs_cons (pg_name (i := 6) scShrink.nd rfl (by first | exact Or.inl rfl | exact Or.inr rfl)) (pgs_cons (pg_name (i := 7) scShrink.nd rfl (by first | exact Or.inl rfl | exact Or.inr rfl)) pgs_nil))) (pss_cons (ps_if (pt_cmpR op_isN (pv 7) pe_non (nomark _)) (pss_one ps_continue) pss_nil)
      (pss_one (ps_for PassesOwn.never rfl (pi_list (pv 3)) (pg_name (i := 8) scShrink.nd rfl (by first | exact Or.inl rfl | exact Or.inr rfl)) (pss_one (ps_if (pt_val (pe_callH HSt (hr.mono (by decide)) rfl (pa_cons (pv 2) (pa_cons (pv 8) (pa_cons (pv 7) (pa_cons (pe_ix ix_list (pv 0) (pv 6) (fun _ _ => rfl)) pa_nil)))))) (pss_cons (ps_dput (hu1 hr) (pv 2) (pv 8) (pe_op op_and (pe_dget (hu1 hr) (pv 2) (pv 8) (fun _ _ => rfl)) (pe_dget (hu1 hr) (pv 2) (pv 7) (fun _ _ => rfl))) rfl)
      (pss_one (ps_expr (pe_bm PySem.F.plainAttrs_list PySem.F.slot_list_append PySem.F.type_list_append mt_append (pv 4) (pa_cons (pe_tup (pa_cons (pv 8) (pa_cons (pv 7) (pa_cons (pv 6) pa_nil)))) pa_nil))))) pss_nil)))))))))
      (pss_one (ps_ret (pe_tup (pa_cons (pv 2) (pa_cons (pv 4) pa_nil)))))))))), ?_⟩
    have hq := L.q
    have hp : H p = some (.tup (fs.map formV)) := L.p
    refine ⟨_, rfl, _, rfl, q, p, cells, fs, rfl, L, fun d F x0 H1 hd nd N S s1 => ?_⟩
    have small := S.small N L.ok
    have Fl : F.length ≤ 63 := Nat.le_trans N.len L.few
    refine ⟨_, rfl, d, _, rfl, hd, fun ln hln => ?_⟩
    rw [dk_fst]
    have sA : Same H1 (upd H1 ln (.lst (F.map V.str))) := Same.new hln
    have eln : (upd H1 ln (.lst (F.map V.str))) ln = some (.lst (F.map V.str)) := upd_same
    generalize upd H1 ln (.lst (F.map V.str)) = H2 at *
    refine ⟨Nat.zero_le _, fun ld hld => ?_⟩
    have sB : Same H2 (upd H2 ld (.lst [])) := Same.new hld
    have eld : (upd H2 ld (.lst [])) ld = some (.lst []) := upd_same
    have s3 : Same H (upd H2 ld (.lst [])) := s1.trans (sA.trans sB)
    have hd3 : (upd H2 ld (.lst [])) d = some (.dK (dkOf F (maskV x0))) := sB _ _ (sA _ _ hd)
    have eln3 := sB _ _ eln
    have fln : H ln = none := by
      cases e : H ln with
      | none => rfl
      | some u => have := s1 _ _ e; rw [hln] at this; cases this
    have fld : H ld = none := by
      cases e : H ld with
      | none => rfl
      | some u => have := sA _ _ (s1 _ _ e); rw [hld] at this; cases this
    have ndl : d ≠ ln := ne_of_none hd hln
    have ndd : d ≠ ld := ne_of_none (sA _ _ hd) hld
    have nln : ln ≠ ld := ne_of_none eln hld
    generalize upd H2 ld (.lst []) = H3 at *
    refine ⟨_, rfl, ?_⟩
    have U0 : Under (rowsOf cells fs) fun z => hasB (x0 z) := Under.start fun z nz m => S z ((N.mem z).mpr nz) m
    refine ⟨fun m σ H4 => ∃ (x : Str → Nat) (ds : List V) (b : Int) (o6 o7 o8 : Option V), H4 d = some (.dK (dkOf F (maskV x))) ∧ H4 ld = some (.lst ds) ∧ H4 ln = some (.lst (F.map V.str)) ∧ Same H H4 ∧ Under (rowsOf cells fs) (fun z => hasB (x z)) ∧ pot F x + ds.length ≤ pot F x0 ∧
      b ≤ (ds.length : Int) ∧ (b = (ds.length : Int) → Still (rowsOf cells fs) fun z => hasB (x z)) ∧ m = 2 * pot F x + (if b < (ds.length : Int) then 1 else 0) ∧ σ = [some (.ref q), some (.ref p), some (.ref d), some (.ref ln), some (.ref ld), some (.int b), o6, o7, o8],
      ⟨_, x0, [], -1, _, _, _, hd3, eld, eln3, s3, U0, Nat.le_refl _, (by show (-1 : Int) ≤ 0; decide), (fun h => absurd h (by show ¬ (-1 : Int) = 0; decide)), rfl, rfl⟩, ?_⟩
    rintro m σ H4 ⟨x, ds, b, o6, o7, o8, hd4, eld4, eln4, s4, U4, pt4, lb, st4, em, rfl⟩
    have ptl := pot_le small
    have dl : ds.length ≤ 4032 := by omega
    refine ⟨_, rfl, _, rfl, _, _, rfl, .inl ⟨_, SqL.of eld4, rfl⟩, _, _, rfl, rfl, _, rfl, ?_⟩
    refine ite2 (fun hb => ?_) (fun hb => ?_)
    · have lt := of_decide_eq_true hb
      rw [if_pos lt] at em
      refine ⟨fun σ' H' => ∃ m', m' < m ∧ _, fun _ _ h => h, ?_⟩
      refine ⟨fun σ' H5 => H5 = H4 ∧ σ' = [some (.ref q), some (.ref p), some (.ref d), some (.ref ln), some (.ref ld), some (.int (ds.length : Int)), o6, o7, o8], ⟨_, rfl, _, _, rfl, .inl ⟨_, SqL.of eld4, rfl⟩, rfl, rfl⟩, ?_⟩
      rintro σ' _ ⟨rfl, rfl⟩
      refine ⟨_, rfl, p, _, rfl, sqT (s4 _ _ hp), ?_⟩
      refine for_it (walk_enumT (K := K) (a := p) (xs := fs.map formV)) (fun i σ H5 => ∃ (x' : Str → Nat) (ds' : List V) (o6 o7 o8 : Option V), H5 d = some (.dK (dkOf F (maskV x'))) ∧ H5 ld = some (.lst ds') ∧ H5 ln = some (.lst (F.map V.str)) ∧ Same H H5 ∧ Under (rowsOf cells fs) (fun z => hasB (x' z)) ∧ pot F x' + ds'.length ≤ pot F x + ds.length ∧
        ds.length ≤ ds'.length ∧ (ds'.length = ds.length → x' = x ∧ Quiet cells fs F x i) ∧ σ = [some (.ref q), some (.ref p), some (.ref d), some (.ref ln), some (.ref ld), some (.int (ds.length : Int)), o6, o7, o8])
        ⟨x, ds, _, _, _, hd4, eld4, eln4, s4, U4, Nat.le_refl _, Nat.le_refl _, fun _ => ⟨rfl, fun j hj => absurd hj (Nat.not_lt_zero _)⟩, rfl⟩ (fun i σ H5 _ ⟨_, _, _, _, _, _, _, _, s, _⟩ => sqT (s _ _ hp)) ?_ ?_
      · rintro i v σ H5 H6 hi ⟨x', ds', o6', o7', o8', e1, e2, e3, s5, U5, pt5, ld5, qu5, rfl⟩ ⟨T0, xf, rfl, hT, rfl, hx⟩
        rw [List.getElem?_map] at hx
        obtain ⟨fo, hfo, rfl⟩ := Option.map_eq_some_iff.mp hx
        have s6 : Same H5 (upd H5 T0 (.tup [.int (i : Nat), formV fo])) := Same.new hT
        have eT : (upd H5 T0 (.tup [.int (i : Nat), formV fo])) T0 = some (.tup [.int (i : Nat), formV fo]) := upd_same
        generalize upd H5 T0 (.tup [.int (i : Nat), formV fo]) = H6 at *
        refine ⟨T0, _, rfl, sqT eT, rfl, _, _, rfl, _, _, rfl, rfl, ?_⟩
        refine ⟨_, rfl, rfl, _, rfl, ?_⟩
        cases fo with
        | none =>
          refine iteT ⟨x', ds', _, _, _, s6 _ _ e1, s6 _ _ e2, s6 _ _ e3, s5.trans s6, U5, pt5, ld5, fun h => ⟨(qu5 h).1, fun j hj c o h1 h2 => ?_⟩, rfl⟩
          by_cases ej : j = i
          · subst ej
            rw [hfo] at h2; cases h2
          · exact (qu5 h).2 j (by omega) c o h1 h2
        | some o =>
          refine iteF ?_
          have lc : i < cells.length := by rw [L.len]; exact (List.getElem?_eq_some_iff.mp hfo).1
          have ec : cells[i]? = some cells[i] := List.getElem?_eq_getElem lc
          generalize cells[i] = c at ec
          have oF : o ∈ F := (N.mem o).mpr ⟨(c, o), rows_mem.mpr ⟨i, ec, hfo⟩, rfl⟩
          have atq : (bitsV cells)[i]? = some (.int (maskN c : Nat)) := by
            unfold bitsV
            rw [List.map_map, List.getElem?_map, ec]; rfl
          refine ⟨_, rfl, ln, rfl, ⟨_, SqL.of (s6 _ _ e3)⟩, ?_⟩
          refine for_list (K := K) (a := ln) (xs := F.map V.str) (fun kk σ H7 => ∃ (x' : Str → Nat) (ds' : List V) (o8 : Option V), H7 d = some (.dK (dkOf F (maskV x'))) ∧ H7 ld = some (.lst ds') ∧ H7 ln = some (.lst (F.map V.str)) ∧ Same H H7 ∧ Under (rowsOf cells fs) (fun z => hasB (x' z)) ∧ pot F x' + ds'.length ≤ pot F x + ds.length ∧
            ds.length ≤ ds'.length ∧ (ds'.length = ds.length → x' = x ∧ Quiet cells fs F x i ∧ ∀ k' < kk, ∀ z, F[k']? = some z → ¬ struck x z o c) ∧ σ = [some (.ref q), some (.ref p), some (.ref d), some (.ref ln), some (.ref ld), some (.int (ds.length : Int)), some (.int (i : Nat)), some (.str o), o8])
            ⟨x', ds', _, s6 _ _ e1, s6 _ _ e2, s6 _ _ e3, s5.trans s6, U5, pt5, ld5, fun h => ⟨(qu5 h).1, (qu5 h).2, fun k' hk => absurd hk (Nat.not_lt_zero _)⟩, rfl⟩ (fun kk σ H7 _ ⟨_, _, _, _, _, e, _⟩ => SqL.of e) ?_ ?_
          · rintro kk v σ H7 hk ⟨y, dy, o8'', g1, g2, g3, s7, U7, pt7, ld7, qu7, rfl⟩
            rw [List.getElem?_map] at hk
            obtain ⟨z, hz, rfl⟩ := Option.map_eq_some_iff.mp hk
            have zF := List.mem_of_getElem? hz
            refine ⟨_, rfl, _, rfl, _, rfl, _, rfl, _, rfl, q, _, _, _, rfl, rfl, SqL.of (s7 _ _ hq), at_of (j := i) rfl atq, d, F, y, z, o, c, rfl, g1, zF, oF, _, rfl, ?_⟩
            refine ite2 (fun hs => ?_) (fun hs => ?_)
            · rw [Bool.and_eq_true, decide_eq_true_iff, decide_eq_true_iff] at hs
              have less : y z &&& y o < y z := by
                have := @Nat.and_le_left (y z) (y o)
                omega
              refine ⟨_, rfl, _, rfl, d, _, rfl, dk_get g1 zF, _, rfl, _, rfl, d, _, rfl, dk_get g1 oF, _, _, rfl, rfl, _, rfl, _, rfl, d, _, rfl, DPut.k (k := Sum.inr z) g1 (small1000 (by rw [dk_len]; omega)), ?_⟩
              have put : putK (dkOf F (maskV y)) (Sum.inr z) (V.int (Builtin.bitAnd (y z : Int) (y o : Int))) = dkOf F (maskV (setX y z (y z &&& y o))) := by rw [PySem.W.os_band, dk_put zF, setG_mask]
              have g1' : (upd H7 d (HO.dK (putK (dkOf F (maskV y)) (Sum.inr z) (V.int (Builtin.bitAnd (y z : Int) (y o : Int)))))) d = some (.dK (dkOf F (maskV (setX y z (y z &&& y o))))) := upd_same.trans (congrArg (fun l => some (HO.dK l)) put)
              have g2' := (upd_ne (H := H7) (o := HO.dK (putK (dkOf F (maskV y)) (Sum.inr z) (V.int (Builtin.bitAnd (y z : Int) (y o : Int))))) ndd.symm).trans g2
              have g3' := (upd_ne (H := H7) (o := HO.dK (putK (dkOf F (maskV y)) (Sum.inr z) (V.int (Builtin.bitAnd (y z : Int) (y o : Int))))) ndl.symm).trans g3
              have s8 : Same H (upd H7 d (HO.dK (putK (dkOf F (maskV y)) (Sum.inr z) (V.int (Builtin.bitAnd (y z : Int) (y o : Int)))))) := fun b u hb => by rw [upd_ne (ne_of_none hb nd)]; exact s7 b u hb
              show _
              generalize upd H7 d (HO.dK (putK (dkOf F (maskV y)) (Sum.inr z) (V.int (Builtin.bitAnd (y z : Int) (y o : Int))))) = H8 at *
              refine ⟨_, rfl, .inl ⟨rfl, _, SqL.of g2'⟩, _, rfl, _, rfl, _, rfl, by show 3 ≤ sizeLine; decide, fun t ht => ?_⟩
              have s9 : Same H8 (upd H8 t (.tup [.str z, .str o, .int (i : Nat)])) := Same.new ht
              have g2'' := s9 _ _ g2'
              have pt := pot_set less N.nd zF
              refine ⟨ld, _, _, rfl, rfl, g2'', Nat.lt_of_le_of_lt (show dy.length ≤ 4032 * 2 by omega) (by decide), setX y z (y z &&& y o), dy ++ [.ref t], _, ?_, upd_same, ?_, ?_, U7.hit N L.ok zF ec hfo hs, ?_, ?_, ?_, rfl⟩
              · rw [upd_ne ndd]; exact s9 _ _ g1'
              · rw [upd_ne nln]; exact s9 _ _ g3'
              · exact fun b u hb => by rw [upd_ne (ne_of_none hb fld)]; exact s9 _ _ (s8 b u hb)
              · rw [List.length_append, List.length_singleton]; omega
              · rw [List.length_append, List.length_singleton]; omega
              · intro h
                rw [List.length_append, List.length_singleton] at h
                omega
            · refine ⟨y, dy, _, g1, g2, g3, s7, U7, pt7, ld7, fun h => ⟨(qu7 h).1, (qu7 h).2.1, fun k' hk' z' hz' => ?_⟩, rfl⟩
              by_cases ek : k' = kk
              · subst ek
                rw [hz] at hz'
                obtain rfl := Option.some.inj hz'
                rintro ⟨a1, a2⟩
                rw [(qu7 h).1] at hs
                exact hs (by rw [Bool.and_eq_true, decide_eq_true_iff, decide_eq_true_iff]; exact ⟨a1, a2⟩)
              · exact (qu7 h).2.2 k' (by omega) z' hz'
          · rintro σ H7 ⟨y, dy, o8'', g1, g2, g3, s7, U7, pt7, ld7, qu7, rfl⟩
            refine ⟨y, dy, _, _, _, g1, g2, g3, s7, U7, pt7, ld7, fun h => ⟨(qu7 h).1, fun j hj c' o' h1 h2 => ?_⟩, rfl⟩
            by_cases ej : j = i
            · subst ej
              rw [hfo] at h2
              rw [ec] at h1
              obtain rfl := Option.some.inj h1
              obtain rfl := Option.some.inj (Option.some.inj h2)
              intro z' hz'
              obtain ⟨k', hk'⟩ := List.mem_iff_getElem?.mp hz'
              exact (qu7 h).2.2 k' (by rw [List.length_map]; exact (List.getElem?_eq_some_iff.mp hk').1) z' hk'
            · exact (qu7 h).2.1 j (by omega) c' o' h1 h2
      · rintro σ H5 ⟨x', ds', o6', o7', o8', e1, e2, e3, s5, U5, pt5, ld5, qu5, rfl⟩
        rw [List.length_map] at qu5
        refine ⟨2 * pot F x' + (if (ds.length : Int) < (ds'.length : Int) then 1 else 0), ?_, x', ds', (ds.length : Int), _, _, _, e1, e2, e3, s5, U5, by omega, by omega, fun h => ?_, rfl, rfl⟩
        · by_cases h : ds'.length = ds.length
          · rw [if_neg (by omega), (qu5 h).1]; omega
          · rw [if_pos (by omega)]; omega
        · have h' : ds'.length = ds.length := by omega
          rw [(qu5 h').1]
          exact Quiet.still N L.ok (qu5 h').2
    · have e : b = (ds.length : Int) := by
        have := of_decide_eq_false (Bool.eq_false_iff.mpr hb)
        omega
      refine ⟨_, rfl, _, rfl, by show 2 ≤ sizeLine; decide, fun t ht => ?_⟩
      have s5 : Same H4 (upd H4 t (.tup [.ref d, .ref ld])) := Same.new ht
      exact k t d ld F x _ upd_same (s5 _ _ hd4) N ⟨U4, st4 e⟩ (s4.trans s5)
end
end Xci


namespace Xci
open PySem L2
theorem nodup_on {α β : Type} (g : α → β) : ∀ {F : List α}, F.Nodup → ((F.map g).Nodup ↔ ∀ y ∈ F, ∀ z ∈ F, g y = g z → y = z)
  | [], _ => ⟨fun _ => nofun, fun _ => List.nodup_nil⟩
  | a :: r, nd => by
    obtain ⟨n1, n2⟩ := List.nodup_cons.mp nd
    rw [List.map_cons, List.nodup_cons, nodup_on g n2]
    constructor
    · rintro ⟨h1, h2⟩ y hy z hz e
      rcases List.mem_cons.mp hy with rfl | hy'
      · rcases List.mem_cons.mp hz with rfl | hz'
        · rfl
        · exact absurd (List.mem_map.mpr ⟨z, hz', e.symm⟩) h1
      · rcases List.mem_cons.mp hz with rfl | hz'
        · exact absurd (List.mem_map.mpr ⟨y, hy', e⟩) h1
        · exact h2 y hy' z hz' e
    · intro h
      refine ⟨fun q => ?_, fun y hy z hz e => h y (List.mem_cons_of_mem _ hy) z (List.mem_cons_of_mem _ hz) e⟩
      obtain ⟨y, hy, e⟩ := List.mem_map.mp q
      have := h y (List.mem_cons_of_mem _ hy) a List.mem_cons_self e
      exact n1 (this ▸ hy)
theorem n_row : ¬ (("within" : Str) = "row") := by decide +kernel
open Classical in
theorem made_within {rows : List (List Int × Str)} {man : Str} (hm : man ≠ "row") {h : Str → Int → Prop} (U : Under rows h) (S : Still rows h) (b : Bool) (e : b = true ↔ Apart rows h) : madeB man rows = b := by
  unfold madeB
  rw [if_neg hm, Bool.eq_iff_iff, decide_eq_true_iff, holds0_iff U S, e]
theorem apart_masks {rows : List (List Int × Str)} {F : List Str} {x : Str → Nat} (N : Names rows F) : (F.map fun z => ((x z : Nat) : Int)).Nodup ↔ Apart rows fun z => hasB (x z) := by
  rw [nodup_on _ N.nd]
  constructor
  · intro h y z ny nz e
    exact h y ((N.mem y).mpr ny) z ((N.mem z).mpr nz) (by rw [has_ext e])
  · intro h y hy z hz e
    have e' : x y = x z := by omega
    exact h y z ((N.mem y).mp hy) ((N.mem z).mp hz) fun m => by show hasB (x y) m ↔ hasB (x z) m; rw [e']
section
variable {P : Program} {w : World} {K : PySem.W.Frag} {mg : Str → Option Value} {base : Heap}
abbrev sMadeSo : Stmt := top 25
theorem scMadeSo : FnScope ["lots", "forms", "manner", "left", "_"] ["lots", "forms", "manner"] (defScope sMadeSo) := ⟨rfl, rfl, rfl, by decide +kernel, rfl, by decide +kernel, by decide +kernel⟩
set_option maxHeartbeats 4000000 in
theorem ok_madeSo {f : Addr} {fd : FuncData} (F : Fun K "made_so" "made_so" sMadeSo f fd) (T : Txt mg) (TS : mg "set" = none) (HRw : Has P w K mg base "_stand_in_a_row" ["lots", "forms"] 2 (spStand false)) (HSh : Has P w K mg base "shrink" ["lots", "forms"] 2 (spShrink false)) : FnOk P w K mg base CX0 3 f fd ["lots", "forms", "manner"] (spMadeSo false) := by
  refine F.ok scMadeSo (fun vs H Q E h => ?_) (fun cdv A outer s H vs Q E hr h => ?_)
  · obtain ⟨q, p, cells, fs, man, rfl, _⟩ := h
    rfl
  · obtain ⟨q, p, cells, fs, man, rfl, L, hm, k⟩ := h
    refine ⟨_, (pss_cons (ps_if (pt_cmpR op_eq (pv 2) pe_str (nomark _)) (pss_one (ps_ret (pe_callH HRw (hr.mono (by decide)) rfl (pa_cons (pv 0) (pa_cons (pv 1) pa_nil))))) pss_nil)
      (pss_cons (ps_asg (pe_callH HSh (hr.mono (by decide)) rfl (pa_cons (pv 0) (pa_cons (pv 1) pa_nil))) (pg_tup rfl (pgs_cons (pg_name (i := 3) scMadeSo.nd rfl (by first | exact Or.inl rfl | exact Or.inr rfl)) (pgs_cons (pg_name (i := 4) scMadeSo.nd rfl (by first | exact Or.inl rfl | exact Or.inr rfl)) pgs_nil))))
      (pss_one (ps_ret (pe_cmpR op_eq (pe_lenSetN rfl rfl T.len rfl TS (pe_listVals rfl rfl T.list (pv 3))) (pe_callB call_lenD rfl T.len PySem.boot_len (pa_cons (pv 3) pa_nil)) (nomark _)))))), ?_⟩
    refine ⟨_, rfl, rfl, _, rfl, ?_⟩
    refine ite2 (fun h => ?_) (fun h => ?_)
    · have e : man = "row" := V.str.inj (of_decide_eq_true h)
      subst e
      exact ⟨_, rfl, _, rfl, q, p, cells, fs, rfl, L, fun H1 s1 => k H1 s1⟩
    · have ne : man ≠ "row" := fun e => h (by rw [e]; exact decide_eq_true rfl)
      refine ⟨_, rfl, _, rfl, q, p, cells, fs, rfl, L, fun t d l F x H1 ht hd N En s1 => ?_⟩
      refine ⟨t, _, rfl, sqT ht, rfl, _, _, rfl, _, _, rfl, rfl, ?_⟩
      refine ⟨_, rfl, d, _, rfl, hd, fun v hv => ?_⟩
      have s2 : Same H1 (upd H1 v (.lst ((dkOf F (maskV x)).map (·.2)))) := Same.new hv
      have ns : (dkOf F (maskV x)).map (·.2) = (F.map fun z => ((x z : Nat) : Int)).map V.int := by rw [dk_snd, List.map_map]; rfl
      have Fl : F.length ≤ 63 := Nat.le_trans N.len L.few
      refine ⟨v, _, rfl, SqL.of (upd_same.trans (by rw [ns])), by rw [List.length_map]; omega, fun n h1 h2 => ⟨_, rfl, d, _, rfl, s2 _ _ hd, rfl, ?_⟩⟩
      have := k _ (s1.trans s2)
      rw [List.length_map] at h2
      rw [made_within ne En.un En.st (decide (V.int (n : Nat) = V.int ((dkOf F (maskV x)).length : Nat))) (by
        rw [decide_eq_true_iff, ← apart_masks N, ← h2, dk_len]
        exact ⟨fun e => by injection e with e; omega, fun e => by rw [e]⟩)] at this
      exact this
abbrev sNeedManner : Stmt := top 24
theorem scNeedManner : FnScope ["thing"] ["thing"] (defScope sNeedManner) := ⟨rfl, rfl, rfl, by decide +kernel, rfl, by decide +kernel, by decide +kernel⟩
theorem man_in2 {man : Str} (h : Man2 man) : inV (.str man) [.str "row", .str "within"] = true := by
  rcases h with rfl | rfl <;> decide +kernel
theorem ok_needManner {f aM : Addr} {fd : FuncData} (F : Fun K "need_manner" "need_manner" sNeedManner f fd) (T : Txt mg) (hM : mg "MANNERS_OF_MAKING" = some (.ref aM)) (tM : ∀ H : Hp, SqT K H aM [.str "row", .str "within"]) : FnOk P w K mg base CX0 1 f fd ["thing"] spNeedManner := by
  refine F.ok scNeedManner (fun vs H Q E h => ?_) (fun cdv A outer s H vs Q E hr h => ?_)
  · obtain ⟨man, rfl, _⟩ := h
    rfl
  · obtain ⟨man, rfl, hm, k⟩ := h
    refine ⟨_, (pss_one (ps_if (PW.pt (pw_or (pt_not (pt_val (pe_callB call_isi rfl T.isinstance (by decide +kernel) (pa_cons (pv 0) (pa_cons (pe_bltn rfl T.str (by decide +kernel) (v := V.ty "str") rfl) pa_nil))))) (pw_or1 (pt_cmpR op_notIn_seq (pv 0) (pe_glob (v := .ref aM) rfl hM rfl) (by with_unfolding_all rfl))))) (pss_one ps_never) pss_nil)), ?_⟩
    refine ⟨_, rfl, _, _, _, _, true, rfl, .ty _, .base (.str _), kit_ty (by decide +kernel), _, rfl, ?_⟩
    refine iteF ?_
    refine ⟨_, rfl, aM, _, rfl, .inr (tM H), rfl, rfl, _, rfl, ?_⟩
    rw [man_in2 hm]
    exact iteF (k H (Same.refl H))
abbrev sIsMade : Stmt := top 28
theorem scIsMade : FnScope ["table", "manner"] ["table", "manner"] (defScope sIsMade) := ⟨rfl, rfl, rfl, by decide +kernel, rfl, by decide +kernel, by decide +kernel⟩
theorem ok_isMade {f CF C : Addr} {fd : FuncData} (F : Fun K "is_made" "is_made" sIsMade f fd) (TT : TabTxt K mg C) (HNm : Has P w K mg base "need_manner" ["thing"] 1 spNeedManner) (HCl : Has P w K mg base "cell_bits" ["family"] 2 (spCellBits CF)) (HMs : Has P w K mg base "made_so" ["lots", "forms", "manner"] 3 (spMadeSo false)) : FnOk P w K mg base CX0 4 f fd ["table", "manner"] (spIsMade CF C) := by
  refine F.ok scIsMade (fun vs H Q E h => ?_) (fun cdv A outer s H vs Q E hr h => ?_)
  · obtain ⟨t, fam, pf, fs, many, pc, cy, cells, man, rfl, _⟩ := h
    rfl
  · obtain ⟨t, fam, pf, fs, many, pc, cy, cells, man, rfl, ⟨dt, ht⟩, hp, ⟨df, hf⟩, hc, mc, ok, few, len, hm, k⟩ := h
    refine ⟨_, (pss_cons (ps_expr (pe_callH HNm (hr.mono (by decide)) rfl (pa_cons (pv 1) pa_nil)))
      (pss_one (ps_ret (pe_callH HMs (hr.mono (by decide)) rfl (pa_cons (pe_callH HCl (hr.mono (by decide)) rfl (pa_cons (pe_fld (pv 0) rfl) pa_nil)) (pa_cons (pe_fld (pv 0) rfl) (pa_cons (pv 1) pa_nil))))))), ?_⟩
    refine ⟨_, rfl, man, rfl, hm, fun H1 s1 => ?_⟩
    refine ⟨_, rfl, t, C, dt, _, _, rfl, s1 _ _ ht, TT.cl, TT.nF, tabF_family _ _, fam, many, pc, cy, cells, rfl, ⟨df, s1 _ _ hf⟩, s1 _ _ hc, mc.keep (TFr.same s1), ok, by omega, fun q H2 hq s2 => ?_⟩
    have s02 := s1.trans s2
    exact ⟨_, rfl, t, C, dt, _, _, rfl, s02 _ _ ht, TT.cl, TT.nO, tabF_forms _ _, _, rfl, q, pf, cells, fs, man, rfl, ⟨hq, s02 _ _ hp, len, ok, by omega⟩, hm, fun H3 s3 => k H3 (s02.trans s3)⟩
end
end Xci

namespace Xci
open PySem L2
theorem Groups.put {H : Hp} {d e : Addr} {o : HO} {rows : List (List Int × Str)} {F : List Str} {g : Str → Addr} (h : Groups H d rows F g) (n1 : d ≠ e) (n2 : ∀ z ∈ F, g z ≠ e) (t : TFr H (upd H e o)) : Groups (upd H e o) d rows F g :=
  ⟨by rw [upd_ne n1]; exact h.at_, h.names, fun z hz => let ⟨ys, q, m⟩ := h.each z hz; ⟨ys, by rw [upd_ne (n2 z hz)]; exact q, m.keep t⟩⟩
def setA (k : Str → Addr) (z : Str) (p : Addr) (y : Str) : Addr := if y = z then p else k y
def setM (ms : Str → List Int) (z : Str) (l : List Int) (y : Str) : List Int := if y = z then l else ms y
theorem setG_ref (k : Str → Addr) (z : Str) (p : Addr) : setG (refV k) z (.ref p) = refV (setA k z p) := funext fun y => by
  unfold setG refV setA
  split <;> rfl
theorem HeldAt.same {H H' : Hp} {e : Addr} {F : List Str} {ms : Str → List Int} {k : Str → Addr} (h : HeldAt H e F ms k) (s : Same H H') : HeldAt H' e F ms k := ⟨s _ _ h.at_, fun z hz => s _ _ (h.each z hz)⟩
/-- one form's marks put anew -/
theorem HeldAt.put {H : Hp} {e p : Addr} {F : List Str} {ms : Str → List Int} {k : Str → Addr} {z : Str} {l : List Int} (h : HeldAt H e F ms k) (zF : z ∈ F) (hp : H p = some (.tup (l.map V.int))) :
    HeldAt (upd H e (.dK (putK (dkOf F (refV k)) (Sum.inr z) (.ref p)))) e F (setM ms z l) (setA k z p) := by
  refine ⟨by rw [upd_same, dk_put zF, setG_ref], fun y hy => ?_⟩
  unfold setA setM
  by_cases q : y = z
  · rw [if_pos q, if_pos q, upd_ne (ne_of hp h.at_ (by intro z; cases z))]
    exact hp
  · rw [if_neg q, if_neg q, upd_ne (ne_of (h.each y hy) h.at_ (by intro z; cases z))]
    exact h.each y hy
theorem pot_marks {F : List Str} {ms : Str → List Int} {z : Str} {l : List Int} (nd : F.Nodup) (zF : z ∈ F) (h : l.length < (ms z).length) : pot F (fun y => (setM ms z l y).length) < pot F fun y => (ms y).length := by
  have e : pot F (fun y => (setM ms z l y).length) = pot F (setX (fun y => (ms y).length) z l.length) := pot_same fun y _ => by
    unfold setM setX
    split <;> rfl
  rw [e]
  exact pot_set h nd zF
/-- nothing to strike from z by y -/
def Calm (rows : List (List Int × Str)) (ms : Str → List Int) (z y : Str) : Prop := z ≠ y → (∃ c ∈ cellsOf rows y, inside (ms z) c = true) → inside (ms z) (ms y) = true
theorem calm_still {rows : List (List Int × Str)} {F : List Str} {ms : Str → List Int} (N : Names rows F) (h : ∀ z ∈ F, ∀ y ∈ F, Calm rows ms z y) : Still rows fun z m => m ∈ ms z := by
  intro z nz r hr w m hm
  by_cases e : z = r.2
  · rw [← e]; exact hm
  · exact inside_mem (h z ((N.mem z).mpr nz) r.2 ((N.mem _).mpr ⟨r, hr, rfl⟩) e ⟨r.1, cellsOf_mem.mpr hr, inside_of w⟩) m hm
section
variable {P : Program} {w : World} {K : PySem.W.Frag} {mg : Str → Option Value} {base : Heap}
abbrev sLawShrink : Stmt := top 47
theorem scLawShrink : FnScope ["groups", "held", "form", "again", "one", "other", "hit", "cell", "mark"] ["groups"] (defScope sLawShrink) := ⟨rfl, rfl, rfl, by decide +kernel, rfl, by decide +kernel, by decide +kernel⟩
set_option maxHeartbeats 16000000 in
theorem ok_lawShrink {f : Addr} {fd : FuncData} (F : Fun K "_law_shrink" "_law_shrink" sLawShrink f fd) (T : Txt mg) (HLc : Has P w K mg base "_law_common" ["cells"] 1 spLawCommon) (HW : Has P w K mg base "_law_within" ["one", "other"] 1 spIn) : FnOk P w K mg base CX0 2 f fd ["groups"] spLawShrink := by
  refine F.ok scLawShrink (fun vs H Q E h => ?_) (fun cdv A outer s H vs Q E hr h => ?_)
  · obtain ⟨d, rows, F, g, rfl, _⟩ := h
    rfl
  · obtain ⟨d, rows, F, g, rfl, G, rok, rlen, k⟩ := h
    refine ⟨_, (pss_cons (ps_set (i := 1) scLawShrink.nd rfl (by first | exact Or.inl rfl | exact Or.inr rfl) pe_dnewK)
      (pss_cons (ps_lock (ps_for PassesOwn.never rfl (pi_keys (pv 0)) (pg_name (i := 2) scLawShrink.nd rfl (by first | exact Or.inl rfl | exact Or.inr rfl)) (pss_one (ps_dput (hu1 hr) (pv 1) (pv 2) (pe_callH HLc (hr.mono (by decide)) rfl (pa_cons (pe_dget (hu1 hr) (pv 0) (pv 2) (fun _ _ => rfl)) pa_nil)) rfl))))
      (pss_cons (ps_set (i := 3) scLawShrink.nd rfl (by first | exact Or.inl rfl | exact Or.inr rfl) pe_bl)
      (pss_cons (ps_while PassesOwn.never (pt_truth (pv 3) (fun _ => rfl)) (pss_cons (ps_set (i := 3) scLawShrink.nd rfl (by first | exact Or.inl rfl | exact Or.inr rfl) pe_bl)
      (pss_one (ps_for PassesOwn.never rfl (pi_list (pe_callB cr_sortedS rfl T.sorted (by decide +kernel) (pa_cons (pe_callTy (call_list_dK rfl) rfl T.list (by decide +kernel) (pa_cons (pv 1) pa_nil)) pa_nil))) (pg_name (i := 4) scLawShrink.nd rfl (by first | exact Or.inl rfl | exact Or.inr rfl)) (pss_one (ps_for PassesOwn.never rfl (pi_list (pe_callB cr_sortedS rfl T.sorted (by decide +kernel) (pa_cons (pe_callTy (call_list_dK rfl) rfl T.list (by decide +kernel) (pa_cons (pv 1) pa_nil)) pa_nil))) (pg_name (i := 5) scLawShrink.nd rfl (by first | exact Or.inl rfl | exact Or.inr rfl)) (pss_cons (ps_setLc (i := 6) (own := [("cell", 7)]) rfl scLawShrink.nd rfl rfl (sw_true rfl rfl rfl (by decide +kernel)) (pi_list (pe_dget (hu1 hr) (pv 0) (pv 5) (fun _ _ => rfl))) (blkOk_by (N := ["groups", "held", "form", "again", "one", "other", "hit", "cell", "mark"]) (sc := defScope sLawShrink) (by decide +kernel)) (fun _ _ _ _ _ => (pg_name (i := 7) scLawShrink.nd rfl (by first | exact Or.inl rfl | exact Or.inr rfl))) (fun _ _ _ _ _ => pts_one (pt_val (pe_callH HW (hr.mono (by decide)) rfl (pa_cons (pe_dget (hu1 hr) (pv 1) (pv 4) (fun _ _ => rfl)) (pa_cons (pv 7) pa_nil))))) (fun _ _ _ _ _ => (pv 7)))
      (pss_one (ps_if (PW.pt (pw_and (pt_cmpR op_ne (pv 4) (pv 5) (nomark _)) (pw_and (pt_cmpR op_gt (pe_callB call_len rfl T.len PySem.boot_len (pa_cons (pv 6) pa_nil)) pe_int (nomark _)) (pw_and1 (pt_not (pt_val (pe_callH HW (hr.mono (by decide)) rfl (pa_cons (pe_dget (hu1 hr) (pv 1) (pv 4) (fun _ _ => rfl)) (pa_cons (pe_dget (hu1 hr) (pv 1) (pv 5) (fun _ _ => rfl)) pa_nil))))))))) (pss_cons (ps_dput (hu1 hr) (pv 1) (pv 4) (pe_callTy call_tuple_of rfl T.tuple (by decide +kernel) (pa_cons (pe_lc (own := [("mark", 8)]) rfl scLawShrink.nd (pi_tup (pe_dget (hu1 hr) (pv 1) (pv 4) (fun _ _ => rfl))) (blkOk_by (N := ["groups", "held", "form", "again", "one", "other", "hit", "cell", "mark"]) (sc := defScope sLawShrink) (by decide +kernel)) (fun _ _ _ _ _ => (pg_name (i := 8) scLawShrink.nd rfl (by first | exact Or.inl rfl | exact Or.inr rfl))) (fun _ _ _ _ _ => pts_one (pt_cmpR (show OpR _ _ (rIn K false) from op_in_seq) (pv 8) (pe_dget (hu1 hr) (pv 1) (pv 5) (fun _ _ => rfl)) (by with_unfolding_all rfl))) (fun _ _ _ _ _ => (pv 8))) pa_nil)) rfl)
      (pss_one (ps_set (i := 3) scLawShrink.nd rfl (by first | exact Or.inl rfl | exact Or.inr rfl) pe_bl))) pss_nil)))))))))
      (pss_one (ps_ret (pv 1))))))), ?_⟩
    have N := G.names
    have cne : ∀ z ∈ F, cellsOf rows z ≠ [] := fun z hz q => by
      obtain ⟨r, hr, e⟩ := (N.mem z).mp hz
      have : r.1 ∈ cellsOf rows z := cellsOf_mem.mpr (by rw [← e]; exact hr)
      rw [q] at this; cases this
    have Fl : F.length ≤ 63 := by
      have : F.length ≤ (rows.map (·.2)).length := List.Nodup.length_le_of_subset N.nd fun z hz => by
        obtain ⟨r, hr, e⟩ := (N.mem z).mp hz
        exact List.mem_map.mpr ⟨r, hr, e⟩
      rw [List.length_map] at this
      omega
    refine fun e he => ?_
    have s1 : Same H (upd H e (.dK [])) := Same.new he
    have ee : (upd H e (.dK [])) e = some (.dK []) := upd_same
    have G1 := G.same s1
    have de : d ≠ e := ne_of_none G.at_ he
    have ge : ∀ z ∈ F, g z ≠ e := fun z hz => by
      obtain ⟨ys, q, _⟩ := G.each z hz
      exact ne_of_none q he
    generalize upd H e (.dK []) = H1 at *
    have gd : ∀ z ∈ F, g z ≠ d := fun z hz => by
      obtain ⟨ys, q, _⟩ := G.each z hz
      exact ne_of q G.at_ (by intro z; cases z)
    refine ⟨d, _, G1.at_, trivial, fun od => ?_⟩
    refine ⟨_, rfl, d, od, rfl, .inl ⟨_, upd_same, ?_⟩⟩
    refine for_it (walk_keys (d := d) (o := od) (kvs := dkOf F (refV g))) (fun i σ H2 => H2 d = some (.frz od (.dK (dkOf F (refV g)))) ∧ (∀ b o, H1 b = some o → b ≠ d → b ≠ e → H2 b = some o) ∧ (∃ (kk : Str → Addr) (ms : Str → List Int), HeldAt H2 e (F.take i) ms kk ∧ ∀ z ∈ F.take i, MarksOk 6 (ms z) ∧ ∀ m, m ∈ ms z ↔ ∀ c ∈ cellsOf rows z, m ∈ c) ∧ ∃ o2 o3 o4 o5 o6 o7 o8 : Option V, σ = [some (.ref d), some (.ref e), o2, o3, o4, o5, o6, o7, o8])
      ⟨upd_same, fun b o hb h1 _ => by rw [upd_ne h1]; exact hb, ⟨fun _ => e, fun _ => [], ⟨by rw [upd_ne de.symm]; exact ee, nofun⟩, nofun⟩, _, _, _, _, _, _, _, rfl⟩ (fun i σ H2 _ ⟨q, _⟩ => q) ?_ ?_
    · rintro i v σ _ H2 hi ⟨hd2, kp, ⟨kk, ms, Hd, mok⟩, o2, o3, o4, o5, o6, o7, o8, rfl⟩ ⟨rfl, key, v', hkv, rfl⟩
      unfold dkOf at hkv
      rw [List.getElem?_map] at hkv
      obtain ⟨z, hz, ez⟩ := Option.map_eq_some_iff.mp hkv
      cases ez
      have zF := List.mem_of_getElem? hz
      obtain ⟨ys, eys, mys⟩ := G1.each z zF
      have eys2 := kp _ _ eys (gd z zF) (ge z zF)
      have tf12 : ∀ b xs, H1 b = some (.tup xs) → H2 b = some (.tup xs) := fun b xs hb => kp b _ hb (ne_of hb G1.at_ (by intro z; cases z)) (ne_of hb ee (by intro z; cases z))
      have got : DGet H2 d (.str z) (some (.ref (g z))) := .inl ⟨_, Sum.inr z, .inr ⟨od, hd2⟩, rfl, (dk_val (g := refV g) zF).symm⟩
      refine ⟨_, rfl, _, rfl, d, _, rfl, got, g z, ys, cellsOf rows z, rfl, eys2, mys.keep tf12, cne z zF, fun c hc => rok _ (cellsOf_mem.mp hc), Nat.le_trans (cellsOf_len _ _) (by omega), fun p l H3 ep lok lm s3 => ?_⟩
      have e3 := s3 _ _ Hd.at_
      have zn : z ∉ F.take i := fun h => by
        obtain ⟨j, hj⟩ := List.mem_iff_getElem?.mp h
        have lj : j < i := by
          have := (List.getElem?_eq_some_iff.mp hj).1
          rw [List.length_take] at this; omega
        rw [List.getElem?_take_of_lt lj] at hj
        obtain ⟨h1, h2⟩ := List.getElem?_eq_some_iff.mp hj
        obtain ⟨h3, h4⟩ := List.getElem?_eq_some_iff.mp hz
        exact absurd (h2.trans h4.symm) (List.pairwise_iff_getElem.mp N.nd j i h1 h3 lj)
      have tk : F.take (i + 1) = F.take i ++ [z] := by rw [List.take_add_one, hz]; rfl
      have i63 : (F.take i).length ≤ 63 := Nat.le_trans (List.length_take_le' _ _) Fl
      refine ⟨_, rfl, _, rfl, e, _, rfl, DPut.k (k := Sum.inr z) e3 (small1000 (by rw [dk_len]; omega)), ?_⟩
      have put : putK (dkOf (F.take i) (refV kk)) (Sum.inr z) (V.ref p) = dkOf (F.take (i + 1)) (refV (setA kk z p)) := by rw [dk_new zn, setG_ref, tk]
      refine ⟨by rw [upd_ne de]; exact s3 _ _ hd2, fun b o hb h1 h2 => by rw [upd_ne h2]; exact s3 _ _ (kp b o hb h1 h2), ⟨setA kk z p, setM ms z l, ⟨upd_same.trans (congrArg (fun l => some (HO.dK l)) put), fun y hy => ?_⟩, fun y hy => ?_⟩, _, _, _, _, _, _, _, rfl⟩
      · unfold setA setM
        by_cases q : y = z
        · rw [if_pos q, if_pos q, upd_ne (ne_of ep e3 (by intro z; cases z))]
          exact ep
        · have yF : y ∈ F.take i := by
            rw [tk] at hy
            exact (List.mem_append.mp hy).elim id fun h => absurd (List.mem_singleton.mp h) q
          have := s3 _ _ (Hd.each y yF)
          rw [if_neg q, if_neg q, upd_ne (ne_of this e3 (by intro z; cases z))]
          exact this
      · unfold setM
        by_cases q : y = z
        · rw [if_pos q, q]
          exact ⟨lok, lm⟩
        · rw [if_neg q]
          refine mok y ?_
          rw [tk] at hy
          exact (List.mem_append.mp hy).elim id fun h => absurd (List.mem_singleton.mp h) q
    rintro σ H2 ⟨hd2, kp, ⟨kk, ms0, Hd, mok⟩, o2, o3, o4, o5, o6, o7, o8, rfl⟩
    rw [dk_len, List.take_length] at Hd mok
    refine ⟨hd2, ?_⟩
    have kp3 : ∀ b o, H1 b = some o → b ≠ e → (upd H2 d (.dK (dkOf F (refV g)))) b = some o := fun b o hb h2 => by
      by_cases q : b = d
      · rw [q, upd_same]
        rw [q, G1.at_] at hb
        exact hb
      · rw [upd_ne q]
        exact kp b o hb q h2
    have s03 : Same H (upd H2 d (.dK (dkOf F (refV g)))) := fun b o hb => kp3 b o (s1 b o hb) (ne_of_none hb he)
    have Hd3 : HeldAt (upd H2 d (.dK (dkOf F (refV g)))) e F ms0 kk := ⟨by rw [upd_ne de.symm]; exact Hd.at_, fun z hz => by rw [upd_ne (ne_of (Hd.each z hz) hd2 (by intro z; cases z))]; exact Hd.each z hz⟩
    have G3 := G.same s03
    generalize upd H2 d (.dK (dkOf F (refV g))) = H3 at *
    have U0 : Under rows fun z m => m ∈ ms0 z := Under.start fun z nz m => ((mok z ((N.mem z).mpr nz)).2 m).trans shared0_cells.symm
    have ok0 : ∀ z ∈ F, MarksOk 6 (ms0 z) := fun z hz => (mok z hz).1
    clear mok Hd hd2 kp kp3 G1 ee s1
    refine ⟨fun m σ H4 => ∃ (kk : Str → Addr) (ms : Str → List Int) (b : Bool) (o2 o4 o5 o6 o7 o8 : Option V), HeldAt H4 e F ms kk ∧ Groups H4 d rows F g ∧ Same H H4 ∧ (∀ z ∈ F, MarksOk 6 (ms z)) ∧ Under rows (fun z m => m ∈ ms z) ∧ (b = false → Still rows fun z m => m ∈ ms z) ∧ m = 2 * pot F (fun z => (ms z).length) + (if b = true then 1 else 0) ∧ σ = [some (.ref d), some (.ref e), o2, some (.bl b), o4, o5, o6, o7, o8],
      ⟨_, kk, ms0, true, _, _, _, _, _, _, Hd3, G3, s03, ok0, U0, nofun, rfl, rfl⟩, ?_⟩
    clear Hd3 G3 s03 ok0 U0 ms0 kk
    rintro m σ H4 ⟨kk, ms, b, o2, o4, o5, o6, o7, o8, Hd4, G4, s4, ok4, U4, st4, rfl, rfl⟩
    refine ⟨_, rfl, b, rfl, ?_⟩
    cases b with
    | false =>
      refine iteF ⟨_, rfl, k e ms kk H4 Hd4 ⟨ok4, U4, st4 rfl⟩ s4⟩
    | true =>
    clear st4
    refine iteT ⟨fun σ' H' => ∃ m', m' < 2 * pot F (fun z => (ms z).length) + (if true = true then 1 else 0) ∧ _, fun _ _ h => h, ?_⟩
    refine ⟨_, rfl, e, _, rfl, Hd4.at_, fun q1 hq1 => ?_⟩
    change ∃ (a : Addr) (xs : List Str), [V.ref q1] = [V.ref a] ∧ _
    rw [dk_fst]
    refine ⟨q1, F, rfl, SqL.of upd_same, by omega, fun F1 p1 perm1 _ hp1 => ?_⟩
    have s5 : Same H4 (upd (upd H4 q1 (.lst (F.map V.str))) p1 (.lst (F1.map V.str))) := (Same.new hq1).trans (Same.new hp1)
    have ep1 : (upd (upd H4 q1 (.lst (F.map V.str))) p1 (.lst (F1.map V.str))) p1 = some (.lst (F1.map V.str)) := upd_same
    have Hd5 := Hd4.same s5
    have G5 := G4.same s5
    have s05 := s4.trans s5
    have pe1 : p1 ≠ e := (ne_of ep1 Hd5.at_ (by intro z; cases z))
    generalize upd (upd H4 q1 (.lst (F.map V.str))) p1 (.lst (F1.map V.str)) = H5 at *
    clear Hd4 G4 s4 s5 hq1
    refine ⟨p1, rfl, ⟨_, SqL.of ep1⟩, ?_⟩
    have mem1 : ∀ z, z ∈ F1 ↔ z ∈ F := fun z => perm1.mem_iff
    refine for_list (K := K) (a := p1) (xs := F1.map V.str) (fun i σ H6 => ∃ (kk : Str → Addr) (ms' : Str → List Int) (b : Bool) (o2 o4 o5 o6 o7 o8 : Option V), HeldAt H6 e F ms' kk ∧ Groups H6 d rows F g ∧ Same H H6 ∧ H6 p1 = some (.lst (F1.map V.str)) ∧ (∀ z ∈ F, MarksOk 6 (ms' z)) ∧ Under rows (fun z m => m ∈ ms' z) ∧ pot F (fun z => (ms' z).length) + (if b = true then 1 else 0) ≤ pot F (fun z => (ms z).length) ∧
      (b = false → ms' = ms ∧ ∀ j < i, ∀ z, F1[j]? = some z → ∀ y ∈ F, Calm rows ms z y) ∧ σ = [some (.ref d), some (.ref e), o2, some (.bl b), o4, o5, o6, o7, o8])
      ⟨kk, ms, false, _, _, _, _, _, _, Hd5, G5, s05, ep1, ok4, U4, Nat.le_refl _, fun _ => ⟨rfl, fun j hj => absurd hj (Nat.not_lt_zero _)⟩, rfl⟩ (fun i σ H6 _ ⟨_, _, _, _, _, _, _, _, _, _, _, _, q, _⟩ => SqL.of q) ?_ ?_
    · clear Hd5 G5 s05 ep1 ok4 U4 o2 o4 o5 o6 o7 o8 kk
      rintro i v σ H6 hi ⟨kk, ma, b, o2, o4, o5, o6, o7, o8, Hd6, G6, s6, ep1, ok6, U6, pt6, cl6, rfl⟩
      rw [List.getElem?_map] at hi
      obtain ⟨z, hz, rfl⟩ := Option.map_eq_some_iff.mp hi
      have zF : z ∈ F := (mem1 z).mp (List.mem_of_getElem? hz)
      refine ⟨_, rfl, e, _, rfl, Hd6.at_, fun q2 hq2 => ?_⟩
      change ∃ (a : Addr) (xs : List Str), [V.ref q2] = [V.ref a] ∧ _
      rw [dk_fst]
      refine ⟨q2, F, rfl, SqL.of upd_same, by omega, fun F2 p2 perm2 _ hp2 => ?_⟩
      have s7 : Same H6 (upd (upd H6 q2 (.lst (F.map V.str))) p2 (.lst (F2.map V.str))) := (Same.new hq2).trans (Same.new hp2)
      have ep2 : (upd (upd H6 q2 (.lst (F.map V.str))) p2 (.lst (F2.map V.str))) p2 = some (.lst (F2.map V.str)) := upd_same
      have Hd7 := Hd6.same s7
      have G7 := G6.same s7
      have s07 := s6.trans s7
      have ep17 := s7 _ _ ep1
      have pe2 : p2 ≠ e := (ne_of ep2 Hd7.at_ (by intro z; cases z))
      generalize upd (upd H6 q2 (.lst (F.map V.str))) p2 (.lst (F2.map V.str)) = H7 at *
      clear Hd6 G6 s6 s7 hq2 ep1
      refine ⟨p2, rfl, ⟨_, SqL.of ep2⟩, ?_⟩
      have mem2 : ∀ z, z ∈ F2 ↔ z ∈ F := fun z => perm2.mem_iff
      refine for_list (K := K) (a := p2) (xs := F2.map V.str) (fun j σ H8 => ∃ (kk : Str → Addr) (ms' : Str → List Int) (b : Bool) (o2 o5 o6 o7 o8 : Option V), HeldAt H8 e F ms' kk ∧ Groups H8 d rows F g ∧ Same H H8 ∧ H8 p1 = some (.lst (F1.map V.str)) ∧ H8 p2 = some (.lst (F2.map V.str)) ∧ (∀ z ∈ F, MarksOk 6 (ms' z)) ∧ Under rows (fun z m => m ∈ ms' z) ∧ pot F (fun z => (ms' z).length) + (if b = true then 1 else 0) ≤ pot F (fun z => (ms z).length) ∧
        (b = false → ms' = ms ∧ (∀ j < i, ∀ z, F1[j]? = some z → ∀ y ∈ F, Calm rows ms z y) ∧ ∀ j' < j, ∀ y, F2[j']? = some y → Calm rows ms z y) ∧ σ = [some (.ref d), some (.ref e), o2, some (.bl b), some (.str z), o5, o6, o7, o8])
        ⟨kk, ma, b, _, _, _, _, _, Hd7, G7, s07, ep17, ep2, ok6, U6, pt6, fun h => ⟨(cl6 h).1, (cl6 h).2, fun j hj => absurd hj (Nat.not_lt_zero _)⟩, rfl⟩ (fun j σ H8 _ ⟨_, _, _, _, _, _, _, _, _, _, _, _, q, _⟩ => SqL.of q) ?_ ?_
      · clear Hd7 G7 s07 ep17 ep2 ok6 U6 pt6 cl6 o2 o4 o5 o6 o7 o8 kk ma b
        rintro j v σ H8 hj ⟨kk, mb, b, o2, o5, o6, o7, o8, Hd8, G8, s8, ep1, ep2, ok8, U8, pt8, cl8, rfl⟩
        rw [List.getElem?_map] at hj
        obtain ⟨y, hy, rfl⟩ := Option.map_eq_some_iff.mp hj
        have yF : y ∈ F := (mem2 y).mp (List.mem_of_getElem? hy)
        obtain ⟨ys, eys, mys⟩ := G8.each y yF
        have lys : ys.length ≤ 63 := by rw [Paired.length mys]; exact Nat.le_trans (cellsOf_len _ _) rlen
        refine ⟨_, rfl, _, rfl, d, _, rfl, dk_get G8.at_ yF, g y, rfl, ⟨_, SqL.of eys⟩, fun D hD => ?_⟩
        refine lc_list (K := K) (a := g y) (xs := ys) (fun t H9 => Same H8 H9 ∧ ∃ hs : List V, H9 D = some (.lst hs) ∧ hs.length = (((cellsOf rows y).take t).filter fun c => inside (mb z) c).length) ⟨Same.new hD, [], upd_same, rfl⟩ (fun t H9 _ ⟨q, _⟩ => SqL.of (q _ _ eys)) ?_ ?_
        · rintro t v H9 ht ⟨s9, hs, e9, lh⟩
          obtain ⟨c, ec, mc⟩ := Paired.get (mys.keep (TFr.same s9)) ht
          have nx : ((cellsOf rows y).take (t + 1)).filter (fun c => inside (mb z) c) = ((cellsOf rows y).take t).filter (fun c => inside (mb z) c) ++ if inside (mb z) c = true then [c] else [] := by
            rw [List.take_add_one, ec, List.filter_append]
            show _ ++ [c].filter _ = _
            rw [filter_one]
          have Hd9 := Hd8.same s9
          have lh63 : hs.length ≤ 63 := by
            rw [lh]
            exact Nat.le_trans (List.length_filter_le _ _) (Nat.le_trans (List.length_take_le' _ _) (Nat.le_trans (cellsOf_len _ _) rlen))
          refine ⟨rfl, _, rfl, _, rfl, e, _, rfl, dk_get Hd9.at_ zF, _, rfl, _, _, mb z, c, rfl, ⟨kk z, rfl, Hd9.each z zF⟩, mc, Nat.le_trans (ok8 z zF).len (by decide), fun H10 s10 => ⟨_, rfl, ?_⟩⟩
          refine ite2 (fun h => ?_) (fun h => ?_)
          · refine ⟨_, rfl, hs, s10 _ _ e9, small1000 (by omega), fun b o hb => by rw [upd_ne (ne_of_none hb hD)]; exact s10 _ _ (s9 _ _ hb), _, upd_same, ?_⟩
            rw [nx, if_pos h, List.length_append, List.length_append, lh]; rfl
          · exact ⟨s9.trans s10, hs, s10 _ _ e9, by rw [nx, if_neg h, List.append_nil]; exact lh⟩
        rintro H9 ⟨s9, hs, e9, lh⟩
        rw [Paired.length mys, List.take_length] at lh
        have skip : ∀ H', Same H8 H' → Calm rows mb z y → ∃ (kk : Str → Addr) (ms' : Str → List Int) (b' : Bool) (o2' o5' o6' o7' o8' : Option V), HeldAt H' e F ms' kk ∧ Groups H' d rows F g ∧ Same H H' ∧ H' p1 = some (.lst (F1.map V.str)) ∧ H' p2 = some (.lst (F2.map V.str)) ∧ (∀ z ∈ F, MarksOk 6 (ms' z)) ∧ Under rows (fun z m => m ∈ ms' z) ∧ pot F (fun z => (ms' z).length) + (if b' = true then 1 else 0) ≤ pot F (fun z => (ms z).length) ∧
          (b' = false → ms' = ms ∧ (∀ j < i, ∀ z, F1[j]? = some z → ∀ y ∈ F, Calm rows ms z y) ∧ ∀ j' < j + 1, ∀ y, F2[j']? = some y → Calm rows ms z y) ∧ [some (.ref d), some (.ref e), o2, some (.bl b), some (.str z), some (.str y), some (.ref D), o7, o8] = [some (.ref d), some (.ref e), o2', some (.bl b'), some (.str z), o5', o6', o7', o8'] :=
          fun H' s' calm => ⟨kk, mb, b, _, _, _, _, _, Hd8.same s', G8.same s', s8.trans s', s' _ _ ep1, s' _ _ ep2, ok8, U8, pt8, fun h => ⟨(cl8 h).1, (cl8 h).2.1, fun j' hj' y' hy' => by
            by_cases q : j' = j
            · subst q
              rw [hy] at hy'
              obtain rfl := Option.some.inj hy'
              rw [← (cl8 h).1]
              exact calm
            · exact (cl8 h).2.2 j' (by omega) y' hy'⟩, rfl⟩
        have Hd9 := Hd8.same s9
        refine ⟨_, rfl, _, rfl, rfl, _, rfl, ?_⟩
        by_cases ezy : z = y
        · have q : (!decide (V.str z = V.str y)) = false := by rw [ezy]; simp
          rw [q]
          exact iteF (iteF (skip H9 s9 fun n => absurd ezy n))
        have q : (!decide (V.str z = V.str y)) = true := by rw [decide_eq_false fun h => ezy (V.str.inj h)]; rfl
        rw [q]
        refine iteT ⟨_, rfl, _, _, rfl, .inl ⟨_, SqL.of e9, rfl⟩, _, _, rfl, rfl, _, rfl, ?_⟩
        by_cases hz0 : hs.length = 0
        · rw [decide_eq_false (by omega)]
          refine iteF (iteF (skip H9 s9 fun _ ⟨c, hc, w⟩ => ?_))
          rw [lh] at hz0
          have : c ∈ (cellsOf rows y).filter fun c => inside (mb z) c := List.mem_filter.mpr ⟨hc, w⟩
          rw [List.length_eq_zero_iff.mp hz0] at this
          cases this
        rw [decide_eq_true (by omega)]
        refine iteT ⟨_, rfl, _, rfl, e, _, rfl, dk_get Hd9.at_ zF, _, rfl, _, rfl, e, _, rfl, dk_get Hd9.at_ yF, _, _, mb z, mb y, rfl, ⟨kk z, rfl, Hd9.each z zF⟩, ⟨kk y, rfl, Hd9.each y yF⟩, Nat.le_trans (ok8 z zF).len (by decide), fun H10 s10 => ⟨_, rfl, ?_⟩⟩
        by_cases ins : inside (mb z) (mb y) = true
        · rw [ins]
          exact iteF (skip H10 (s9.trans s10) fun _ _ => ins)
        have insf : inside (mb z) (mb y) = false := Bool.eq_false_iff.mpr ins
        rw [insf]
        refine iteT ?_
        have sA := s9.trans s10
        have HdA := Hd8.same sA
        have GA := G8.same sA
        have s0A := s8.trans sA
        have ep1A := sA _ _ ep1
        have ep2A := sA _ _ ep2
        obtain ⟨c, hcy, wc⟩ : ∃ c ∈ cellsOf rows y, inside (mb z) c = true := by
          have : 0 < ((cellsOf rows y).filter fun c => inside (mb z) c).length := by omega
          obtain ⟨c, hc⟩ := List.exists_mem_of_length_pos this
          obtain ⟨a1, a2⟩ := List.mem_filter.mp hc
          exact ⟨c, a1, a2⟩
        clear skip Hd9 Hd8 G8 s8 s9 s10 ep1 ep2 e9
        have tz := HdA.each z zF
        refine ⟨_, rfl, _, rfl, e, _, rfl, dk_get HdA.at_ zF, kk z, rfl, ⟨_, sqT tz⟩, fun D2 hD2 => ?_⟩
        refine lc_tup (K := K) (a := kk z) (xs := (mb z).map V.int) (fun t H11 => Same H10 H11 ∧ H11 D2 = some (.lst ((((mb z).take t).filter fun m => decide (m ∈ mb y)).map V.int))) ⟨Same.new hD2, upd_same⟩ (fun t H11 _ ⟨q, _⟩ => sqT (q _ _ tz)) ?_ ?_
        · rintro t v H11 ht ⟨s11, e11⟩
          obtain ⟨m, hm, rfl⟩ := int_of ht
          have Hd11 := HdA.same s11
          have nx : ((mb z).take (t + 1)).filter (fun m => decide (m ∈ mb y)) = ((mb z).take t).filter (fun m => decide (m ∈ mb y)) ++ if decide (m ∈ mb y) = true then [m] else [] := by
            rw [List.take_add_one, hm, List.filter_append]
            show _ ++ [m].filter _ = _
            rw [filter_one]
          refine ⟨rfl, _, rfl, _, rfl, _, rfl, e, _, rfl, dk_get Hd11.at_ yF, kk y, _, rfl, .inr (sqT (Hd11.each y yF)), rfl, flat_ints _, _, rfl, ?_⟩
          show (if inV (.int m) ((mb y).map V.int) = true then _ else _)
          rw [inV_int]
          have zl := (ok8 z zF).len
          refine ite2 (fun h => ?_) (fun h => ?_)
          · refine ⟨_, rfl, _, e11, ?_, fun b o hb => by rw [upd_ne (ne_of_none hb hD2)]; exact s11 _ _ hb, ?_⟩
            · rw [List.length_map]
              exact small1000 (Nat.le_trans (List.length_filter_le _ _) (Nat.le_trans (List.length_take_le' _ _) (by omega)))
            · rw [upd_same, nx, if_pos h, List.map_append]; rfl
          · exact ⟨s11, by rw [nx, if_neg h, List.append_nil]; exact e11⟩
        rintro H11 ⟨s11, e11⟩
        rw [List.length_map, List.take_length] at e11
        refine ⟨D2, _, rfl, .inl ⟨SqL.of e11, fun p hp => ?_⟩⟩
        have s12 : Same H10 (upd H11 p (.tup (((mb z).filter fun m => decide (m ∈ mb y)).map V.int))) := s11.trans (Same.new hp)
        have ep : (upd H11 p (.tup (((mb z).filter fun m => decide (m ∈ mb y)).map V.int))) p = some (.tup (((mb z).filter fun m => decide (m ∈ mb y)).map V.int)) := upd_same
        generalize upd H11 p (.tup (((mb z).filter fun m => decide (m ∈ mb y)).map V.int)) = H12 at *
        have Hd12 := HdA.same s12
        have G12 := GA.same s12
        refine ⟨_, rfl, _, rfl, e, _, rfl, DPut.k (k := Sum.inr z) Hd12.at_ (small1000 (by rw [dk_len]; omega)), ?_⟩
        have less : ((mb z).filter fun m => decide (m ∈ mb y)).length < (mb z).length := by
          have le := List.length_filter_le (fun m => decide (m ∈ mb y)) (mb z)
          by_cases q : ((mb z).filter fun m => decide (m ∈ mb y)).length = (mb z).length
          · have all := List.length_filter_eq_length_iff.mp q
            exact absurd (inside_of fun m hm => of_decide_eq_true (all m hm)) ins
          · omega
        have pt := pot_marks (ms := mb) N.nd zF less
        have tf : TFr H12 (upd H12 e (.dK (putK (dkOf F (refV kk)) (Sum.inr z) (.ref p)))) := fun b xs hb => by rw [upd_ne (ne_of hb Hd12.at_ (by intro z; cases z))]; exact hb
        refine ⟨setA kk z p, setM mb z ((mb z).filter fun m => decide (m ∈ mb y)), true, _, _, _, _, _, Hd12.put zF ep, G12.put de ge tf, fun b o hb => by rw [upd_ne (ne_of_none hb he)]; exact s12 _ _ (s0A _ _ hb), by rw [upd_ne pe1]; exact s12 _ _ ep1A, by rw [upd_ne pe2]; exact s12 _ _ ep2A, fun u hu => ?_, ?_, ?_, nofun, rfl⟩
        · unfold setM
          by_cases q : u = z
          · rw [if_pos q]; exact (ok8 z zF).sub List.filter_sublist
          · rw [if_neg q]; exact ok8 u hu
        · refine U8.strike ((N.mem z).mp zF) (r := (c, y)) (cellsOf_mem.mp hcy) (fun m hm => inside_mem wc m hm) (fun m => ?_) fun u hu m => ?_
          · show m ∈ (if z = z then _ else _) ↔ _
            rw [if_pos rfl, List.mem_filter, decide_eq_true_iff]
          · show m ∈ (if u = z then _ else _) ↔ _
            rw [if_neg hu]
        · rw [if_pos rfl]
          have : pot F (fun z => (mb z).length) ≤ pot F fun z => (ms z).length := by
            have := pt8; split at this <;> omega
          omega
      · rintro σ H8 ⟨kk, mb, b, o2, o5, o6, o7, o8, Hd8, G8, s8, ep1, ep2, ok8, U8, pt8, cl8, rfl⟩
        refine ⟨kk, mb, b, _, _, _, _, _, _, Hd8, G8, s8, ep1, ok8, U8, pt8, fun h => ⟨(cl8 h).1, fun j hj z' hz' => ?_⟩, rfl⟩
        by_cases q : j = i
        · subst q
          rw [hz] at hz'
          obtain rfl := Option.some.inj hz'
          intro y hy
          obtain ⟨j', hj'⟩ := List.mem_iff_getElem?.mp ((mem2 y).mpr hy)
          exact (cl8 h).2.2 j' (by rw [List.length_map]; exact (List.getElem?_eq_some_iff.mp hj').1) y hj'
        · exact (cl8 h).2.1 j (by omega) z' hz'
    · rintro σ H6 ⟨kk, ma, b, o2, o4, o5, o6, o7, o8, Hd6, G6, s6, ep1, ok6, U6, pt6, cl6, rfl⟩
      refine ⟨2 * pot F (fun z => (ma z).length) + (if b = true then 1 else 0), ?_, kk, ma, b, _, _, _, _, _, _, Hd6, G6, s6, ok6, U6, fun h => ?_, rfl, rfl⟩
      · rw [if_pos rfl]
        cases b with
        | true => rw [if_pos rfl] at pt6 ⊢; omega
        | false => rw [if_neg (by decide)] at pt6 ⊢; omega
      · rw [(cl6 h).1]
        refine calm_still N fun z hz y hy => ?_
        obtain ⟨j, hj⟩ := List.mem_iff_getElem?.mp ((mem1 z).mpr hz)
        exact (cl6 h).2 j (by rw [List.length_map]; exact (List.getElem?_eq_some_iff.mp hj).1) z hj y hy
abbrev sLawWithinMade : Stmt := top 48
theorem scLawWithinMade : FnScope ["cells", "forms", "held", "form"] ["cells", "forms"] (defScope sLawWithinMade) := ⟨rfl, rfl, rfl, by decide +kernel, rfl, by decide +kernel, by decide +kernel⟩
set_option maxHeartbeats 4000000 in
theorem ok_lawWithinMade {f : Addr} {fd : FuncData} (F : Fun K "_law_within_made" "_law_within_made" sLawWithinMade f fd) (T : Txt mg) (TS : mg "set" = none) (HLg : Has P w K mg base "_law_groups" ["cells", "forms"] 1 spLawGroups) (HLs : Has P w K mg base "_law_shrink" ["groups"] 2 spLawShrink) : FnOk P w K mg base CX0 3 f fd ["cells", "forms"] spLawWithinMade := by
  refine F.ok scLawWithinMade (fun vs H Q E h => ?_) (fun cdv A outer s H vs Q E hr h => ?_)
  · obtain ⟨pc, pf, cy, cells, fs, rfl, _⟩ := h
    rfl
  · obtain ⟨pc, pf, cy, cells, fs, rfl, C, k⟩ := h
    refine ⟨_, (pss_cons (ps_set (i := 2) scLawWithinMade.nd rfl (by first | exact Or.inl rfl | exact Or.inr rfl) (pe_callH HLs (hr.mono (by decide)) rfl (pa_cons (pe_callH HLg (hr.mono (by decide)) rfl (pa_cons (pv 0) (pa_cons (pv 1) pa_nil))) pa_nil)))
      (pss_one (ps_ret (pe_cmpR op_eq (pe_lenSetL rfl (hu64 hr) rfl T.len rfl TS (pe_lock (pe_lc (own := [("form", 3)]) rfl scLawWithinMade.nd (pi_keys (pv 2)) (blkOk_by (N := ["cells", "forms", "held", "form"]) (sc := defScope sLawWithinMade) (by decide +kernel)) (fun _ _ _ _ _ => (pg_name (i := 3) scLawWithinMade.nd rfl (by first | exact Or.inl rfl | exact Or.inr rfl))) (fun _ _ _ _ _ => pts_nil) (fun _ _ _ _ _ => (pe_dget (hu1 hr) (pv 2) (pv 3) (fun _ _ => rfl)))))) (pe_callB call_lenD rfl T.len PySem.boot_len (pa_cons (pv 2) pa_nil)) (nomark _))))), ?_⟩
    refine ⟨_, rfl, _, rfl, pc, pf, cy, cells, fs, rfl, C, fun d F g H1 G nd s1 => ?_⟩
    have N := G.names
    have Fl : F.length ≤ 63 := Nat.le_trans N.len C.few
    refine ⟨d, _, F, g, rfl, G, rows_ok C.ok, Nat.le_trans rows_few C.few, fun e ms kk H2 Hd En s2 => ?_⟩
    refine ⟨e, _, Hd.at_, trivial, fun od => ?_⟩
    refine ⟨_, rfl, e, od, rfl, .inl ⟨_, upd_same, fun D hD => ?_⟩⟩
    refine lc_it (walk_keys (d := e) (o := od) (kvs := dkOf F (refV kk))) (fun i H3 => H3 e = some (.frz od (.dK (dkOf F (refV kk)))) ∧ (∀ b o, H2 b = some o → b ≠ e → H3 b = some o) ∧ H3 D = some (.lst ((F.take i).map (refV kk)))) ⟨by rw [upd_ne (fun q => by rw [← q, upd_same] at hD; cases hD)]; exact upd_same, fun b o hb h1 => ?_, upd_same⟩ (fun i H3 _ ⟨q, _⟩ => q) ?_ ?_
    · rw [upd_ne (fun q => by rw [← q, upd_ne h1, hb] at hD; cases hD), upd_ne h1]; exact hb
    · rintro i v _ H3 hi ⟨he3, kp, e3⟩ ⟨rfl, key, v', hkv, rfl⟩
      unfold dkOf at hkv
      rw [List.getElem?_map] at hkv
      obtain ⟨z, hz, ez⟩ := Option.map_eq_some_iff.mp hkv
      cases ez
      have zF := List.mem_of_getElem? hz
      have got : DGet H3 e (.str z) (some (.ref (kk z))) := .inl ⟨_, Sum.inr z, .inr ⟨od, he3⟩, rfl, (dk_val (g := refV kk) zF).symm⟩
      have De : D ≠ e := (ne_of e3 he3 (by intro z; cases z))
      refine ⟨rfl, _, rfl, _, rfl, e, _, rfl, got, _, e3, by rw [List.length_map]; exact small1000 (Nat.le_trans (List.length_take_le' _ _) (by omega)), by rw [upd_ne De.symm]; exact he3, fun b o hb h1 => ?_, ?_⟩
      · have : b ≠ D := fun q => by
          rw [q] at hb
          by_cases q2 : D = e
          · exact De q2
          · rw [upd_ne q2, hb] at hD; cases hD
        rw [upd_ne this]
        exact kp b o hb h1
      · rw [upd_same, List.take_add_one, hz, List.map_append]; rfl
    rintro H3 ⟨he3, kp, e3⟩
    rw [dk_len, List.take_length] at e3
    refine ⟨he3, ?_⟩
    have s3 : Same H2 (upd H3 e (.dK (dkOf F (refV kk)))) := fun b o hb => by
      by_cases q : b = e
      · rw [q, upd_same]
        rw [q, Hd.at_] at hb
        exact hb
      · rw [upd_ne q]; exact kp b o hb q
    have De : D ≠ e := (ne_of e3 he3 (by intro z; cases z))
    have eD : (upd H3 e (.dK (dkOf F (refV kk)))) D = some (.lst (F.map (refV kk))) := by rw [upd_ne De]; exact e3
    have Hd4 := Hd.same s3
    generalize upd H3 e (.dK (dkOf F (refV kk))) = H4 at *
    have ks : F.map (refV kk) = (F.map fun z => (kk z, ms z)).map fun p => V.ref p.1 := by rw [List.map_map]; rfl
    refine ⟨D, F.map fun z => (kk z, ms z), rfl, SqL.of (by rw [← ks]; exact eD), fun p hp => ?_, by rw [List.length_map]; omega, fun n h1 h2 => ⟨_, rfl, e, _, rfl, Hd4.at_, rfl, ?_⟩⟩
    · obtain ⟨z, hz, rfl⟩ := List.mem_map.mp hp
      exact sqT (Hd4.each z hz)
    · have := k _ (s1.trans (s2.trans s3))
      rw [List.length_map, List.map_map] at h2
      have same : (F.map ms).Nodup ↔ Apart (rowsOf cells fs) fun z m => m ∈ ms z := by
        rw [nodup_on _ N.nd]
        constructor
        · intro h y z ny nz q
          have hy := (N.mem y).mpr ny
          have hz := (N.mem z).mpr nz
          exact h y hy z hz (MarksOk.one (En.ok y hy) (En.ok z hz) q)
        · intro h y hy z hz q
          exact h y z ((N.mem y).mp hy) ((N.mem z).mp hz) fun m => by show m ∈ ms y ↔ m ∈ ms z; rw [q]
      rw [made_within (fun q => n_row q) En.un En.st (decide (V.int (n : Nat) = V.int ((dkOf F (refV kk)).length : Nat))) (by
        rw [decide_eq_true_iff, ← same, dk_len]
        have h2 : n = F.length ↔ (F.map ms).Nodup := h2
        rw [← h2]
        exact ⟨fun q => by injection q with q; omega, fun q => by rw [q]⟩)] at this
      exact this
abbrev sLawMade : Stmt := top 49
theorem scLawMade : FnScope ["cells", "forms", "manner"] ["cells", "forms", "manner"] (defScope sLawMade) := ⟨rfl, rfl, rfl, by decide +kernel, rfl, by decide +kernel, by decide +kernel⟩
theorem ok_lawMade {f : Addr} {fd : FuncData} (F : Fun K "_law_made" "_law_made" sLawMade f fd) (HLr : Has P w K mg base "_law_row_made" ["cells", "forms"] 2 spLawRowMade) (HLw : Has P w K mg base "_law_within_made" ["cells", "forms"] 3 spLawWithinMade) : FnOk P w K mg base CX0 4 f fd ["cells", "forms", "manner"] spLawMade := by
  refine F.ok scLawMade (fun vs H Q E h => ?_) (fun cdv A outer s H vs Q E hr h => ?_)
  · obtain ⟨pc, pf, cy, cells, fs, man, rfl, _⟩ := h
    rfl
  · obtain ⟨pc, pf, cy, cells, fs, man, rfl, C, hm, k⟩ := h
    refine ⟨_, (pss_one (ps_ret (pe_ifExp (pt_cmpR op_eq (pv 2) pe_str (nomark _)) (pe_callH HLr (hr.mono (by decide)) rfl (pa_cons (pv 0) (pa_cons (pv 1) pa_nil))) (pe_callH HLw (hr.mono (by decide)) rfl (pa_cons (pv 0) (pa_cons (pv 1) pa_nil)))))), ?_⟩
    refine ⟨_, rfl, rfl, _, rfl, ?_⟩
    refine ite2 (fun h => ?_) (fun h => ?_)
    · have e : man = "row" := V.str.inj (of_decide_eq_true h)
      subst e
      exact ⟨_, rfl, _, rfl, pc, pf, cy, cells, fs, rfl, C, fun H1 s1 => k H1 s1⟩
    · have e : man = "within" := hm.elim (fun e => absurd (decide_eq_true (by rw [e])) h) id
      subst e
      exact ⟨_, rfl, _, rfl, pc, pf, cy, cells, fs, rfl, C, fun H1 s1 => k H1 s1⟩
end
end Xci

namespace Xci
open PySem L2
theorem formsOk_words {n : Nat} {fs : List (Option Str)} {zs : List Str} (len : fs.length = n) (le : n ≤ 24) (mem : ∀ z, some z ∈ fs → z ∈ zs) (ok : ∀ z ∈ zs, WordOk z) (few : zs.length ≤ 12) : FormsOk n fs :=
  ⟨len, le, fun z hz => ok z (mem z hz), fun us ru => Nat.le_trans (List.Nodup.length_le_of_subset ru.nd fun z hz => mem z ((ru.all z).mp hz)) few⟩
/-- what is drawn for a table -/
structure Drawn (H : Hp) (v : V) (many : Int) (pc pf : Addr) (cy : List V) (cells : List (List Int)) (fs : List (Option Str)) (zs : List Str) : Prop where
  tup : Tup H v [.int many, .ref pc, .ref pf]
  cp : H pc = some (.tup cy)
  cm : Mks H cy cells
  fok : FamOk many cells
  fp : H pf = some (.tup (fs.map formV))
  len : fs.length = cells.length
  mem : ∀ z, some z ∈ fs → z ∈ zs
  few : zs.length ≤ 12
  wok : ∀ z ∈ zs, z ∈ nm13
theorem Drawn.tfr {H H' : Hp} {v : V} {many : Int} {pc pf : Addr} {cy : List V} {cells : List (List Int)} {fs : List (Option Str)} {zs : List Str} (d : Drawn H v many pc pf cy cells fs zs) (f : TFr H H') : Drawn H' v many pc pf cy cells fs zs :=
  ⟨Tup.keep f d.tup, f _ _ d.cp, d.cm.keep f, d.fok, f _ _ d.fp, d.len, d.mem, d.few, d.wok⟩
theorem Drawn.forms {H : Hp} {v : V} {many : Int} {pc pf : Addr} {cy : List V} {cells : List (List Int)} {fs : List (Option Str)} {zs : List Str} (d : Drawn H v many pc pf cy cells fs zs) : FormsOk cy.length fs :=
  formsOk_words (by rw [d.len, Paired.length d.cm]) (by rw [Paired.length d.cm]; exact d.fok.len) d.mem (fun z hz => nm13_ok z (d.wok z hz)) (Nat.le_trans d.few (by decide))
def spTableN : Sp := fun vs H Q _ => ∃ (a ld : Addr) (man : Str) (mm mc op : Int), vs = [.ref a, .str man, .int mm, .int mc, .int op] ∧ Dice H a ld ∧ 0 ≤ mm ∧ mm ≤ 6 ∧ 1 ≤ mc ∧ mc ≤ 24 ∧ 0 ≤ op ∧ op ≤ 10 ∧
  ∀ (v : V) (many : Int) (pc pf : Addr) (cy : List V) (cells : List (List Int)) (fs : List (Option Str)) (zs : List Str) (H' : Hp), Drawn H' v many pc pf cy cells fs zs → Dice H' a ld → Fr a H H' → Q v H'
def spBuilt (CF C : Addr) : Sp := fun vs H Q _ => ∃ (v : V) (many : Int) (pc pf : Addr) (cy : List V) (cells : List (List Int)) (fs : List (Option Str)) (zs : List Str), vs = [v] ∧ Drawn H v many pc pf cy cells fs zs ∧
  ∀ (t fam : Addr) (H' : Hp), TabAt C H' t fam pf → FamAt CF H' fam many pc → Same H H' → Q (.ref t) H'
def spTableM : Sp := fun vs H Q _ => ∃ (a ld : Addr) (man : Str) (mm mc op : Int), vs = [.ref a, .str man, .int mm, .int mc, .int op] ∧ Dice H a ld ∧ 0 ≤ mm ∧ mm ≤ 6 ∧ 1 ≤ mc ∧ mc ≤ 24 ∧ 0 ≤ op ∧ op ≤ 10 ∧
  ∀ (v : V) (many : Int) (pc pf : Addr) (cy : List V) (cells : List (List Int)) (fs : List (Option Str)) (zs : List Str) (H' : Hp), Drawn H' v many pc pf cy cells fs zs → many ≤ mm → (cells.length : Int) ≤ mc → Dice H' a ld → Fr a H H' → Q v H'
section
variable {P : Program} {w : World} {K : PySem.W.Frag} {mg : Str → Option Value} {base : Heap}
abbrev sLawTable : Stmt := top 52
theorem scLawTable : FnScope ["dice", "manner", "most_marks", "most_cells", "opens", "many", "cells", "found", "turn"] ["dice", "manner", "most_marks", "most_cells", "opens"] (defScope sLawTable) := ⟨rfl, rfl, rfl, by decide +kernel, rfl, by decide +kernel, by decide +kernel⟩
set_option maxHeartbeats 8000000 in
theorem ok_tableM {f : Addr} {fd : FuncData} (F : Fun K "_law_table" "_law_table" sLawTable f fd) (T : Txt mg) (HT : Has P w K mg base "_law_draw" ["dice", "sides"] 1 spDraw) (HFa : Has P w K mg base "_law_family" ["dice", "most_marks", "most_cells"] 3 spFamilyM) (HFo : Has P w K mg base "_law_forms" ["dice", "cells", "manner"] 3 spFormsN) :
    FnOk P w K mg base CX0 4 f fd ["dice", "manner", "most_marks", "most_cells", "opens"] spTableM := by
  refine F.ok scLawTable (fun vs H Q E h => ?_) (fun cdv A outer s H vs Q E hr h => ?_)
  · obtain ⟨a, ld, man, mm, mc, op, rfl, _⟩ := h
    rfl
  · obtain ⟨a, ld, man, mm, mc, op, rfl, hd, h1, h2, h3, h4, h5, h6, k⟩ := h
    refine ⟨_, (pss_cons (ps_asg (pe_callH HFa (hr.mono (by decide)) rfl (pa_cons (pv 0) (pa_cons (pv 2) (pa_cons (pv 3) pa_nil)))) (pg_tup rfl (pgs_cons (pg_name (i := 5) scLawTable.nd rfl (by first | exact Or.inl rfl | exact Or.inr rfl)) (pgs_cons (pg_name (i := 6) scLawTable.nd rfl (by first | exact Or.inl rfl | exact Or.inr rfl)) pgs_nil))))
      (pss_cons (ps_set (i := 7) scLawTable.nd rfl (by first | exact Or.inl rfl | exact Or.inr rfl) (pe_callH HFo (hr.mono (by decide)) rfl (pa_cons (pv 0) (pa_cons (pv 6) (pa_cons (pv 1) pa_nil)))))
      (pss_cons (ps_for PassesOwn.never rfl (pi_range1 rfl T.range (pa_cons (pe_callH HT (hr.mono (by decide)) rfl (pa_cons (pv 0) (pa_cons (pe_op op_add (pv 4) pe_int) pa_nil))) pa_nil)) (pg_name (i := 8) scLawTable.nd rfl (by first | exact Or.inl rfl | exact Or.inr rfl)) (pss_one (ps_asg pe_non (pg_sub (pv 7) (pe_callH HT (hr.mono (by decide)) rfl (pa_cons (pv 0) (pa_cons (pe_callB call_len rfl T.len PySem.boot_len (pa_cons (pv 7) pa_nil)) pa_nil))) set_list))))
      (pss_one (ps_ret (pe_tup (pa_cons (pv 5) (pa_cons (pv 6) (pa_cons (pe_callTy call_tuple_of rfl T.tuple (by decide +kernel) (pa_cons (pv 7) pa_nil)) pa_nil))))))))), ?_⟩
    refine ⟨_, rfl, _, rfl, _, rfl, a, ld, mm, mc, rfl, hd, h1, h2, h3, h4, fun v pc many cy cells H1 tv hp mk fam nmm lm hd1 f1 => ?_⟩
    obtain ⟨tp, rfl, htp⟩ := tv
    refine ⟨tp, _, rfl, sqT htp, rfl, _, _, rfl, _, _, rfl, rfl, ?_⟩
    have c24 := fam.len
    have cpos : 0 < cells.length := List.length_pos_iff.mpr fam.ne
    have npc : pc ≠ a := by
      obtain ⟨ys, e⟩ := hd1.is
      exact ne_of hp e (by intro z; cases z)
    refine ⟨_, rfl, _, rfl, _, rfl, a, ld, pc, cy, cells, man, rfl, hd1, hp, mk, fam.ne, c24, fun c hc => (fam.ok c hc).le fam.hi, fun D fs zs H2 e2 lf mf z5 mz fD hd2 f2 => ?_⟩
    have nD := hd1.ne fD
    have mD := hd1.ne' fD
    refine ⟨_, rfl, _, rfl, _, _, rfl, rfl, a, ld, _, rfl, hd2, by omega, by omega, fun n H3 n0 n1 hd3 f3 => ?_⟩
    change ∃ j : Int, [V.int n] = [V.int j] ∧ -2 ^ 62 ≤ j ∧ j < 2 ^ 62 ∧ _
    refine ⟨n, rfl, by omega, by omega, ?_⟩
    refine for_range (n := n.toNat) (fun i σ H4 => ∃ fs' : List (Option Str), H4 D = some (.lst (fs'.map formV)) ∧ fs'.length = cells.length ∧ (∀ z, some z ∈ fs' → z ∈ zs) ∧ Dice H4 a ld ∧ Fr a H1 H4 ∧ ∃ o8 : Option V, σ = [some (.ref a), some (.str man), some (.int mm), some (.int mc), some (.int op), some (.int many), some (.ref pc), some (.ref D), o8])
      ⟨fs, f3 _ _ e2 nD, lf, mf, hd3, f2.trans f3, _, rfl⟩ ?_ ?_
    · rintro i σ H4 hi ⟨fs', e4, lf', mf', hd4, f4, o8, rfl⟩
      refine ⟨_, rfl, _, rfl, _, rfl, _, fs'.length, rfl, .inl ⟨_, SqL.of e4, by rw [List.length_map]⟩, a, ld, _, rfl, hd4, by omega, by omega, fun d H5 g0 g1 hd5 f5 => ?_⟩
      have e5 := f5 _ _ e4 nD
      refine ⟨D, _, d, d.toNat, rfl, rfl, e5, ?_, ?_⟩
      · unfold ixN
        rw [if_pos g0, if_pos (by rw [List.length_map]; exact g1)]
      · refine ⟨fs'.set d.toNat none, by rw [upd_same, List.map_set]; rfl, by rw [List.length_set]; exact lf', fun y hy => ?_, hd5.put nD mD, fun b o h n => by rw [upd_ne (ne_of_none h fD)]; exact f5 _ _ (f4 _ _ h n) n, _, rfl⟩
        rcases List.mem_or_eq_of_mem_set hy with h | h
        · exact mf' y h
        · cases h
    · rintro σ H4 ⟨fs', e4, lf', mf', hd4, f4, o8, rfl⟩
      refine ⟨_, rfl, _, rfl, _, rfl, D, _, rfl, .inl ⟨SqL.of e4, fun l hl => ?_⟩⟩
      refine ⟨by show 3 ≤ sizeLine; decide, fun t ht => ?_⟩
      have s5 : Same H4 (upd H4 l (.tup (fs'.map formV))) := Same.new hl
      have el : (upd H4 l (.tup (fs'.map formV))) l = some (.tup (fs'.map formV)) := upd_same
      generalize upd H4 l (.tup (fs'.map formV)) = H5 at *
      have s6 : Same H5 (upd H5 t (.tup [.int many, .ref pc, .ref l])) := Same.new ht
      have et : (upd H5 t (.tup [.int many, .ref pc, .ref l])) t = some (.tup [.int many, .ref pc, .ref l]) := upd_same
      generalize upd H5 t (.tup [.int many, .ref pc, .ref l]) = H6 at *
      have s46 := s5.trans s6
      have tf : TFr H1 H6 := fun p xs e => s46 _ _ (hd1.tfr f4 _ _ e)
      exact k (.ref t) many pc l cy cells fs' zs H6 ⟨⟨t, rfl, et⟩, tf _ _ hp, mk.keep tf, fam, s6 _ _ el, lf', mf', Nat.le_trans z5 (by decide), mz⟩ nmm lm (hd4.keep s46) (f1.trans (f4.trans (Fr.same s46)))
abbrev sLawBuilt : Stmt := top 53
theorem scLawBuilt : FnScope ["drawn"] ["drawn"] (defScope sLawBuilt) := ⟨rfl, rfl, rfl, by decide +kernel, rfl, by decide +kernel, by decide +kernel⟩
theorem ok_built {f CF C : Addr} {fd : FuncData} (F : Fun K "_law_built" "_law_built" sLawBuilt f fd) (T : Txt mg) (HFm : HasC P w K mg base "Family" CF ["self", "many", "cells"] 5 (spFam CF)) (HTb : HasC P w K mg base "Table" C ["self", "family", "forms"] 3 (spTab CF C)) : FnOk P w K mg base CX0 7 f fd ["drawn"] (spBuilt CF C) := by
  refine F.ok scLawBuilt (fun vs H Q E h => ?_) (fun cdv A outer s H vs Q E hr h => ?_)
  · obtain ⟨v, many, pc, pf, cy, cells, fs, zs, rfl, _⟩ := h
    rfl
  · obtain ⟨v, many, pc, pf, cy, cells, fs, zs, rfl, d, k⟩ := h
    obtain ⟨tp, rfl, htp⟩ := d.tup
    refine ⟨_, (pss_one (ps_ret (pe_makeH HTb (hr.mono (by decide)) rfl (pa_cons (pe_makeH HFm (hr.mono (by decide)) rfl (pa_cons (pe_ix ix_tup (pv 0) pe_int (fun _ _ => rfl)) (pa_cons (pe_ix ix_tup (pv 0) pe_int (fun _ _ => rfl)) pa_nil))) (pa_cons (pe_ix ix_tup (pv 0) pe_int (fun _ _ => rfl)) pa_nil))))), ?_⟩
    refine ⟨_, rfl, tp, _, _, _, rfl, rfl, sqT htp, at_of (j := 0) rfl rfl, _, rfl, tp, _, _, _, rfl, rfl, sqT htp, at_of (j := 1) rfl rfl, ?_⟩
    intro x dx nx ndx nex
    have s6 : Same H (upd (upd H dx (.own x)) x (.ins CF dx [])) := fun b o e => by rw [upd_ne (ne_of_none e nx), upd_ne (ne_of_none e ndx)]; exact e
    refine ⟨x, dx, many, pc, cy, cells, rfl, upd_same, s6 _ _ d.cp, d.cm.keep (TFr.same s6), d.fok, fun H1 hx kq => ⟨rfl, ?_⟩⟩
    have s1 : Same H H1 := fun b o e => kq b o (s6 b o e) (ne_of_none e nx)
    have d1 := d.tfr (TFr.same s1)
    refine ⟨_, rfl, tp, _, _, _, rfl, rfl, sqT (s1 _ _ htp), at_of (j := 2) rfl rfl, ?_⟩
    obtain ⟨dxx, hx⟩ := hx
    intro y dy ny ndy ney
    have s7 : Same H1 (upd (upd H1 dy (.own y)) y (.ins C dy [])) := fun b o e => by rw [upd_ne (ne_of_none e ny), upd_ne (ne_of_none e ndy)]; exact e
    refine ⟨y, dy, x, many, pc, cy, pf, fs, rfl, upd_same, ⟨dxx, s7 _ _ hx⟩, (ne_of_none hx ny).symm, s7 _ _ d1.cp, s7 _ _ d1.fp, d.forms, fun H2 hy kt => ⟨rfl, ?_⟩⟩
    have s2 : Same H1 H2 := fun b o e => kt b o (s7 b o e) (ne_of_none e ny)
    exact k y x H2 hy ⟨dxx, s2 _ _ hx⟩ (s1.trans s2)
end
end Xci

namespace Xci
open PySem L2
section
variable {P : Program} {w : World} {K : PySem.W.Frag} {mg : Str → Option Value} {base : Heap}
def spLawSpoken : Sp := fun vs H Q _ => ∃ (p : Addr) (fs : List (Option Str)), vs = [.ref p] ∧ H p = some (.tup (fs.map formV)) ∧ fs.length < 64 ∧ ∀ (q : Addr) (zs : List Str) (H' : Hp), Rising fs zs → H' q = some (.lst (zs.map V.str)) → H q = none → Same H H' → Q (.ref q) H'
abbrev sLawSpoken : Stmt := top 55
theorem scLawSpoken : FnScope ["forms", "form"] ["forms"] (defScope sLawSpoken) := ⟨rfl, rfl, rfl, by decide +kernel, rfl, by decide +kernel, by decide +kernel⟩
set_option maxHeartbeats 4000000 in
theorem ok_lawSpoken {f : Addr} {fd : FuncData} (F : Fun K "_law_spoken" "_law_spoken" sLawSpoken f fd) (T : Txt mg) (TS : mg "set" = none) : FnOk P w K mg base CX0 1 f fd ["forms"] spLawSpoken := by
  refine F.ok scLawSpoken (fun vs H Q E h => ?_) (fun cdv A outer s H vs Q E hr h => ?_)
  · obtain ⟨p, fs, rfl, _⟩ := h
    rfl
  · obtain ⟨p, fs, rfl, hp, few, k⟩ := h
    refine ⟨_, (pss_one (ps_ret (pe_callB (cr_sortedTexts rfl) rfl T.sorted (by decide +kernel) (pa_cons (pe_callTy (cr_setTexts rfl) rfl TS (by decide +kernel) (pa_cons (pe_lc (own := [("form", 1)]) rfl scLawSpoken.nd (pi_tup (pv 0)) (blkOk_by (N := ["forms", "form"]) (sc := defScope sLawSpoken) (by decide +kernel)) (fun _ _ _ _ _ => (pg_name (i := 1) scLawSpoken.nd rfl (by first | exact Or.inl rfl | exact Or.inr rfl))) (fun _ _ _ _ _ => pts_one (pt_cmpR op_notN (pv 1) pe_non (nomark _))) (fun _ _ _ _ _ => (pv 1))) pa_nil)) pa_nil)))), ?_⟩
    refine ⟨_, rfl, p, rfl, ⟨_, sqT hp⟩, fun D hD => ?_⟩
    refine lc_tup (K := K) (a := p) (xs := fs.map formV) (fun i H4 => Same H H4 ∧ H4 D = some (.lst (((fs.take i).filterMap id).map V.str))) ⟨Same.new hD, upd_same⟩ (fun i H4 _ ⟨e, _⟩ => sqT (e _ _ hp)) ?_ ?_
    · rintro i v H4 hi ⟨s4, e4⟩
      rw [List.getElem?_map] at hi
      obtain ⟨fo, hfo, rfl⟩ := Option.map_eq_some_iff.mp hi
      have il := (List.getElem?_eq_some_iff.mp hfo).1
      refine ⟨rfl, _, rfl, rfl, _, rfl, ?_⟩
      cases fo with
      | none =>
        refine iteF ⟨s4, ?_⟩
        rw [List.take_add_one, hfo, List.filterMap_append]
        show H4 D = some (.lst ((_ ++ []).map V.str))
        rw [List.append_nil]
        exact e4
      | some z =>
        refine iteT ⟨_, rfl, _, e4, ?_, fun b o hb => by rw [upd_ne (ne_of_none hb hD)]; exact s4 _ _ hb, ?_⟩
        · rw [List.length_map]
          exact small1000 (Nat.le_trans (List.length_filterMap_le _ _) (Nat.le_trans (List.length_take_le' _ _) (by omega)))
        · rw [upd_same, List.take_add_one, hfo, List.filterMap_append, List.map_append]; rfl
    · rintro H4 ⟨s4, e4⟩
      rw [List.length_map, List.take_length] at e4
      have le : (fs.filterMap id).length ≤ fs.length := List.length_filterMap_le _ _
      refine ⟨D, fs.filterMap id, rfl, SqL.of e4, by omega, fun a c hc ha => ?_⟩
      change ∃ (a' : Addr) (S : Str → Bool) (n : Nat), [V.ref a] = [V.ref a'] ∧ _
      have cle := hc.le
      obtain ⟨us, und, umem, ulen⟩ := hc
      refine ⟨a, _, c, rfl, upd_same, by omega, fun xs q up mem len hq => ?_⟩
      have mm : ∀ z, z ∈ xs ↔ some z ∈ fs := fun z => by
        rw [mem, decide_eq_true_iff, List.mem_filterMap]
        exact ⟨fun ⟨a, h1, h2⟩ => by cases h2; exact h1, fun h => ⟨some z, h, rfl⟩⟩
      have same : ∀ z, z ∈ us ↔ z ∈ xs := fun z => by rw [umem, mem, decide_eq_true_iff]
      have s5 := (Same.new ha).trans (Same.new (o := .lst (xs.map V.str)) hq)
      refine k q xs _ ⟨up, mm, (count_unlike und same).2.mp (by omega)⟩ upd_same ?_ (s4.trans s5)
      cases e : H q with
      | none => rfl
      | some u =>
        have := (Same.new (o := TextsO P w a (fun j => decide (j ∈ fs.filterMap id)) c) ha) _ _ (s4 _ _ e)
        have t : (none : Option HO) = some u := hq.symm.trans this
        cases t
def spLawFlag : Sp := fun vs H Q _ => ∃ a b : Bool, vs = [.bl a, .bl b] ∧ Q (.bl (decide (a = b))) H
abbrev sLawFlag : Stmt := top 56
theorem scLawFlag : FnScope ["told", "due"] ["told", "due"] (defScope sLawFlag) := ⟨rfl, rfl, rfl, by decide +kernel, rfl, by decide +kernel, by decide +kernel⟩
theorem ok_lawFlag {f : Addr} {fd : FuncData} (F : Fun K "_law_flag" "_law_flag" sLawFlag f fd) (T : Txt mg) : FnOk P w K mg base CX0 1 f fd ["told", "due"] spLawFlag := by
  refine F.ok scLawFlag (fun vs H Q E h => ?_) (fun cdv A outer s H vs Q E hr h => ?_)
  · obtain ⟨a, b, rfl, _⟩ := h
    rfl
  · obtain ⟨a, b, rfl, k⟩ := h
    refine ⟨_, (pss_one (ps_ret (pe_and (pe_callB call_isi rfl T.isinstance (by decide +kernel) (pa_cons (pv 0) (pa_cons (pe_bltn rfl T.bool (by decide +kernel) (v := V.ty "bool") rfl) pa_nil))) (pe_one (pe_cmpR op_eq (pv 0) (pv 1) (nomark _)))))), ?_⟩
    refine ⟨_, rfl, _, _, _, _, true, rfl, .ty _, .base (.bl _), kit_ty (by decide +kernel), _, rfl, ?_⟩
    refine iteT ⟨_, rfl, _, rfl, rfl, ?_⟩
    have e : decide (V.bl a = V.bl b) = decide (a = b) := by rw [decide_eq_decide, V.bl.injEq]
    rw [e]
    exact k
end
end Xci

namespace Xci
open PySem L2
def toldIx (fs : List (Option Str)) (n : Nat) : List Nat := (List.range n).filter fun k => (fs[k]?.getD none).isSome
def cAt (cells : List (List Int)) (k : Nat) : List Int := cells[k]?.getD []
def fAt (fs : List (Option Str)) (k : Nat) : Option Str := fs[k]?.getD none
theorem told_next {fs : List (Option Str)} (n : Nat) : toldIx fs (n + 1) = toldIx fs n ++ (if (fAt fs n).isSome = true then [n] else []) := by
  unfold toldIx
  rw [List.range_succ, List.filter_append]
  by_cases h : (fAt fs n).isSome = true
  · rw [if_pos h]; unfold fAt at h; simp [h]
  · rw [if_neg h]; unfold fAt at h; simp [h]
theorem rows_app {cells : List (List Int)} {fs : List (Option Str)} {c : List Int} {f : Option Str} (h : cells.length = fs.length) : rowsOf (cells ++ [c]) (fs ++ [f]) = rowsOf cells fs ++ (match f with | some z => [(c, z)] | none => []) := by
  unfold rowsOf
  rw [List.zip_append h, List.filterMap_append]
  cases f <;> rfl
theorem rows_strip {cells : List (List Int)} {fs : List (Option Str)} (len : fs.length = cells.length) : ∀ n : Nat, n ≤ cells.length → rowsOf ((toldIx fs n).map (cAt cells)) ((toldIx fs n).map (fAt fs)) = rowsOf (cells.take n) (fs.take n)
  | 0, _ => by unfold toldIx; rfl
  | n + 1, h => by
    have ih := rows_strip len n (by omega)
    obtain ⟨c, ec⟩ : ∃ c, cells[n]? = some c := ⟨_, List.getElem?_eq_getElem (by omega)⟩
    obtain ⟨fo, ef⟩ : ∃ fo, fs[n]? = some fo := ⟨_, List.getElem?_eq_getElem (by omega)⟩
    have ca : cAt cells n = c := by unfold cAt; rw [ec]; rfl
    have fa : fAt fs n = fo := by unfold fAt; rw [ef]; rfl
    rw [rows_take ec ef, told_next, ← ih, fa]
    cases fo with
    | none => simp
    | some z =>
      rw [if_pos (show (some z).isSome = true from rfl), List.map_append, List.map_append]
      show rowsOf (_ ++ [cAt cells n]) (_ ++ [fAt fs n]) = _
      rw [rows_app (by rw [List.length_map, List.length_map]), ca, fa]
open Classical in
theorem made_nil (man : Str) : madeB man ([] : List (List Int × Str)) = true := by
  unfold madeB
  by_cases e : man = "row"
  · rw [if_pos e]; exact stand_nil _ _
  · rw [if_neg e, decide_eq_true_iff]
    obtain ⟨h, U, S⟩ := some_end []
    exact ⟨h, U, S, fun y z ⟨r, hr, _⟩ => by cases hr⟩
def spLawRight : Sp := fun vs H Q _ => ∃ (v : V) (many : Int) (pc pf : Addr) (cy : List V) (cells : List (List Int)) (fs : List (Option Str)) (zs : List Str) (man : Str), vs = [v, .str man] ∧ Drawn H v many pc pf cy cells fs zs ∧ Man2 man ∧ ∀ H', Same H H' → Q (.bl true) H'
section
variable {P : Program} {w : World} {K : PySem.W.Frag} {mg : Str → Option Value} {base : Heap}
abbrev sLawRight : Stmt := top 60
theorem scLawRight : FnScope ["drawn", "manner", "many", "cells", "forms", "due", "at", "k", "stripped"] ["drawn", "manner"] (defScope sLawRight) := ⟨rfl, rfl, rfl, by decide +kernel, rfl, by decide +kernel, by decide +kernel⟩
set_option maxHeartbeats 8000000 in
theorem ok_lawRight {f CF C : Addr} {fd : FuncData} (F : Fun K "_law_right" "_law_right" sLawRight f fd) (T : Txt mg) (HLm : Has P w K mg base "_law_made" ["cells", "forms", "manner"] 4 spLawMade) (HFg : Has P w K mg base "_law_flag" ["told", "due"] 1 spLawFlag) (HBu : Has P w K mg base "_law_built" ["drawn"] 7 (spBuilt CF C)) (HIm : Has P w K mg base "is_made" ["table", "manner"] 4 (spIsMade CF C)) : FnOk P w K mg base CX0 8 f fd ["drawn", "manner"] spLawRight := by
  refine F.ok scLawRight (fun vs H Q E h => ?_) (fun cdv A outer s H vs Q E hr h => ?_)
  · obtain ⟨v, many, pc, pf, cy, cells, fs, zs, man, rfl, _⟩ := h
    rfl
  · obtain ⟨v, many, pc, pf, cy, cells, fs, zs, man, rfl, d, hm, k⟩ := h
    refine ⟨_, (pss_cons (ps_asg (pv 0) (pg_tup rfl (pgs_cons (pg_name (i := 2) scLawRight.nd rfl (by first | exact Or.inl rfl | exact Or.inr rfl)) (pgs_cons (pg_name (i := 3) scLawRight.nd rfl (by first | exact Or.inl rfl | exact Or.inr rfl)) (pgs_cons (pg_name (i := 4) scLawRight.nd rfl (by first | exact Or.inl rfl | exact Or.inr rfl)) pgs_nil)))))
      (pss_cons (ps_set (i := 5) scLawRight.nd rfl (by first | exact Or.inl rfl | exact Or.inr rfl) (pe_callH HLm (hr.mono (by decide)) rfl (pa_cons (pv 3) (pa_cons (pv 4) (pa_cons (pv 1) pa_nil)))))
      (pss_cons (ps_if (pt_not (pt_val (pe_callH HFg (hr.mono (by decide)) rfl (pa_cons (pe_callH HIm (hr.mono (by decide)) rfl (pa_cons (pe_callH HBu (hr.mono (by decide)) rfl (pa_cons (pv 0) pa_nil)) (pa_cons (pv 1) pa_nil))) (pa_cons (pv 5) pa_nil))))) (pss_one (ps_ret pe_bl)) pss_nil)
      (pss_cons (ps_setLc (i := 6) (own := [("k", 7)]) rfl scLawRight.nd rfl rfl (sw_true rfl rfl rfl (by decide +kernel)) (pi_range1 rfl T.range (pa_cons (pe_callB call_len rfl T.len PySem.boot_len (pa_cons (pv 3) pa_nil)) pa_nil)) (blkOk_by (N := ["drawn", "manner", "many", "cells", "forms", "due", "at", "k", "stripped"]) (sc := defScope sLawRight) (by decide +kernel)) (fun _ _ _ _ _ => (pg_name (i := 7) scLawRight.nd rfl (by first | exact Or.inl rfl | exact Or.inr rfl))) (fun _ _ _ _ _ => pts_one (pt_cmpR op_notN (pe_ix (show IxR _ (rIxT K) from ix_tup) (pv 4) (pv 7) (fun _ _ => rfl)) pe_non (nomark _))) (fun _ _ _ _ _ => (pv 7)))
      (pss_cons (ps_if (pt_cmpR op_eq (pe_callB call_len rfl T.len PySem.boot_len (pa_cons (pv 6) pa_nil)) pe_int (nomark _)) (pss_one (ps_ret (pv 5))) pss_nil)
      (pss_cons (ps_set (i := 8) scLawRight.nd rfl (by first | exact Or.inl rfl | exact Or.inr rfl) (pe_tup (pa_cons (pv 2) (pa_cons (pe_callTy call_tuple_of rfl T.tuple (by decide +kernel) (pa_cons (pe_lc (own := [("k", 7)]) rfl scLawRight.nd (pi_list (pv 6)) (blkOk_by (N := ["drawn", "manner", "many", "cells", "forms", "due", "at", "k", "stripped"]) (sc := defScope sLawRight) (by decide +kernel)) (fun _ _ _ _ _ => (pg_name (i := 7) scLawRight.nd rfl (by first | exact Or.inl rfl | exact Or.inr rfl))) (fun _ _ _ _ _ => pts_nil) (fun _ _ _ _ _ => (pe_ix (show IxR _ (rIxT K) from ix_tup) (pv 3) (pv 7) (fun _ _ => rfl)))) pa_nil)) (pa_cons (pe_callTy call_tuple_of rfl T.tuple (by decide +kernel) (pa_cons (pe_lc (own := [("k", 7)]) rfl scLawRight.nd (pi_list (pv 6)) (blkOk_by (N := ["drawn", "manner", "many", "cells", "forms", "due", "at", "k", "stripped"]) (sc := defScope sLawRight) (by decide +kernel)) (fun _ _ _ _ _ => (pg_name (i := 7) scLawRight.nd rfl (by first | exact Or.inl rfl | exact Or.inr rfl))) (fun _ _ _ _ _ => pts_nil) (fun _ _ _ _ _ => (pe_ix (show IxR _ (rIxT K) from ix_tup) (pv 4) (pv 7) (fun _ _ => rfl)))) pa_nil)) pa_nil)))))
      (pss_one (ps_ret (pe_callH HFg (hr.mono (by decide)) rfl (pa_cons (pe_callH HIm (hr.mono (by decide)) rfl (pa_cons (pe_callH HBu (hr.mono (by decide)) rfl (pa_cons (pv 8) pa_nil)) (pa_cons (pv 1) pa_nil))) (pa_cons (pv 5) pa_nil))))))))))), ?_⟩
    have mok : ∀ c ∈ cells, MarksOk 6 c := fun c hc => (d.fok.ok c hc).le d.fok.hi
    have lcy : cy.length = cells.length := Paired.length d.cm
    obtain ⟨tp, rfl, htp⟩ := d.tup
    refine ⟨_, rfl, tp, _, rfl, sqT htp, rfl, _, _, rfl, _, _, rfl, _, _, rfl, rfl, ?_⟩
    refine ⟨_, rfl, _, rfl, _, rfl, pc, pf, cy, cells, fs, man, rfl, ⟨d.cp, d.cm, d.fp, d.len.symm, mok, Nat.le_trans d.fok.len (by decide)⟩, hm, fun H1 s1 => ?_⟩
    refine ⟨_, rfl, .ref tp, many, pc, pf, cy, cells, fs, zs, rfl, d.tfr (TFr.same s1), fun t fm H2 ht hf s2 => ⟨_, rfl, t, fm, pf, fs, many, pc, cy, cells, man, rfl, ht, (d.tfr (TFr.same (s1.trans s2))).fp, hf, (d.tfr (TFr.same (s1.trans s2))).cp, (d.tfr (TFr.same (s1.trans s2))).cm, mok, d.fok.len, d.len.symm, hm, fun H3 s3 => ⟨_, rfl, _, _, rfl, ?_⟩⟩⟩
    rw [show decide (madeB man (rowsOf cells fs) = madeB man (rowsOf cells fs)) = true from decide_eq_true rfl]
    refine ⟨_, rfl, iteF ?_⟩
    have s03 := s1.trans (s2.trans s3)
    have d3 := d.tfr (TFr.same s03)
    have strip := rows_strip d.len cells.length (Nat.le_refl _)
    rw [List.take_of_length_le (Nat.le_refl _), List.take_of_length_le (by rw [d.len]; exact Nat.le_refl _)] at strip
    refine ⟨_, rfl, _, cy.length, rfl, .inr ⟨_, sqT d3.cp, rfl⟩, _, rfl, by have := d.fok.len; omega, by have := d.fok.len; omega, fun D hD => ?_⟩
    refine lc_range (lo := 0) (n := cy.length) (fun m H4 => H4 D = some (.lst ((toldIx fs m).map fun k => V.int (k : Nat))) ∧ Same H3 H4) ⟨upd_same, Same.new hD⟩ ?_ ?_
    · rintro m H4 hm' ⟨e4, s4⟩
      have ltf : m < fs.length := by have := d.len; omega
      have ef : fs[m]? = some fs[m] := List.getElem?_eq_getElem ltf
      have gf : (fs.map formV)[m]? = some (formV fs[m]) := by rw [List.getElem?_map, ef]; rfl
      have fa : fAt fs m = fs[m] := by unfold fAt; rw [ef]; rfl
      have i0 : (0 + (m : Int)) = ((m : Nat) : Int) := by omega
      have tn := told_next (fs := fs) m
      have few4 : (toldIx fs m).length ≤ 24 := by
        unfold toldIx
        have := List.length_filter_le (fun k => (fs[k]?.getD none).isSome) (List.range m)
        rw [List.length_range] at this
        have := d.fok.len
        omega
      refine ⟨rfl, _, rfl, _, rfl, pf, _, _, _, rfl, rfl, sqT (s4 _ _ d3.fp), at_of (j := m) i0 gf, rfl, _, rfl, ?_⟩
      cases hfm : fs[m] with
      | none =>
        rw [fa, hfm, if_neg (by decide), List.append_nil] at tn
        refine iteF ⟨by rw [tn]; exact e4, s4⟩
      | some z =>
        rw [fa, hfm, if_pos (show (some z).isSome = true from rfl)] at tn
        refine iteT ⟨_, rfl, _, e4, small1000 (by rw [List.length_map]; omega), by rw [upd_same, tn, List.map_append, i0]; rfl, fun b o h => by rw [upd_ne (ne_of_none h hD)]; exact s4 _ _ h⟩
    rintro H4 ⟨e4, s4⟩
    rw [lcy] at e4
    have d4 := d3.tfr (TFr.same s4)
    have s04 := s03.trans s4
    have kall : ∀ k ∈ toldIx fs cells.length, k < cells.length := fun k hk => List.mem_range.mp (List.mem_filter.mp hk).1
    have knd : (toldIx fs cells.length).Nodup := List.nodup_range.sublist List.filter_sublist
    generalize hks : toldIx fs cells.length = ks at *
    have lks : ks.length ≤ 24 := by
      rw [← hks]
      unfold toldIx
      have := List.length_filter_le (fun k => (fs[k]?.getD none).isSome) (List.range cells.length)
      rw [List.length_range] at this
      have := d.fok.len
      omega
    refine ⟨_, rfl, _, ks.length, rfl, .inl ⟨_, SqL.of e4, by rw [List.length_map]⟩, rfl, _, rfl, ?_⟩
    refine ite2 (fun z => ?_) (fun z => ?_)
    · have z0 : ks = [] := by
        have := V.int.inj (of_decide_eq_true z)
        exact List.length_eq_zero_iff.mp (by omega)
      have r0 : rowsOf cells fs = [] := by rw [← strip, z0]; rfl
      have kk := k H4 s04
      rw [r0, made_nil]
      exact ⟨_, rfl, kk⟩
    have kne : ks ≠ [] := fun q => z (by rw [q]; exact decide_eq_true rfl)
    have cget : ∀ k ∈ ks, cells[k]? = some (cAt cells k) := fun k hk => by
      unfold cAt
      rw [List.getElem?_eq_getElem (kall k hk)]; rfl
    have fget : ∀ k ∈ ks, fs[k]? = some (fAt fs k) := fun k hk => by
      unfold fAt
      rw [List.getElem?_eq_getElem (by rw [d.len]; exact kall k hk)]; rfl
    refine ⟨_, rfl, _, rfl, D, rfl, ⟨_, SqL.of e4⟩, fun D2 hD2 => ?_⟩
    refine lc_list (K := K) (a := D) (xs := ks.map fun k => V.int (k : Nat)) (fun j H5 => ∃ vs, H5 D2 = some (.lst vs) ∧ Same H4 H5 ∧ Mks H5 vs ((ks.take j).map (cAt cells))) ⟨[], upd_same, Same.new hD2, .nil⟩ (fun j H5 _ ⟨_, _, e, _⟩ => SqL.of (e _ _ e4)) ?_ ?_
    · rintro j x H5 hj ⟨vs, e5, s5, mk⟩
      rw [List.getElem?_map] at hj
      obtain ⟨k', ek, rfl⟩ := Option.map_eq_some_iff.mp hj
      have mk' := List.mem_of_getElem? ek
      obtain ⟨y, hy, my⟩ := Paired.get' d4.cm (cget k' mk')
      have lv := Paired.length mk
      rw [List.length_map, List.length_take] at lv
      refine ⟨rfl, _, rfl, _, rfl, pc, _, _, _, rfl, rfl, sqT (s5 _ _ d4.cp), at_of rfl hy, vs, e5, small1000 (by omega), vs ++ [y], upd_same, fun b o h => by rw [upd_ne (ne_of_none h hD2)]; exact s5 _ _ h, ?_⟩
      rw [List.take_add_one, ek, List.map_append]
      have tf : TFr H5 (upd H5 D2 (.lst (vs ++ [y]))) := TFr.lst e5
      exact Paired.app (mk.keep tf) (Paired.one (Tup.keep tf (Tup.keep (TFr.same s5) my)))
    rintro H5 ⟨vs, e5, s5, mk⟩
    rw [List.length_map, List.take_length] at mk
    refine ⟨D2, vs, rfl, .inl ⟨SqL.of e5, fun pc2 hpc2 => ?_⟩⟩
    have s6 : Same H5 (upd H5 pc2 (.tup vs)) := Same.new hpc2
    have ec6 : (upd H5 pc2 (.tup vs)) pc2 = some (.tup vs) := upd_same
    generalize upd H5 pc2 (.tup vs) = H6 at *
    have s46 := s5.trans s6
    refine ⟨_, rfl, D, rfl, ⟨_, SqL.of (s46 _ _ e4)⟩, fun D3 hD3 => ?_⟩
    refine lc_list (K := K) (a := D) (xs := ks.map fun k => V.int (k : Nat)) (fun j H7 => H7 D3 = some (.lst (((ks.take j).map (fAt fs)).map formV)) ∧ Same H6 H7) ⟨upd_same, Same.new hD3⟩ (fun j H7 _ ⟨_, e⟩ => SqL.of (e _ _ (s46 _ _ e4))) ?_ ?_
    · rintro j x H7 hj ⟨e7, s7⟩
      rw [List.getElem?_map] at hj
      obtain ⟨k', ek, rfl⟩ := Option.map_eq_some_iff.mp hj
      have gf : (fs.map formV)[k']? = some (formV (fAt fs k')) := by rw [List.getElem?_map, fget k' (List.mem_of_getElem? ek)]; rfl
      refine ⟨rfl, _, rfl, _, rfl, pf, _, _, _, rfl, rfl, sqT ((s46.trans s7) _ _ d4.fp), at_of rfl gf, _, e7, small1000 (by rw [List.length_map, List.length_map, List.length_take]; omega), ?_, fun b o h => by rw [upd_ne (ne_of_none h hD3)]; exact s7 _ _ h⟩
      rw [upd_same, List.take_add_one, ek, List.map_append, List.map_append]; rfl
    rintro H7 ⟨e7, s7⟩
    rw [List.length_map, List.take_length] at e7
    refine ⟨D3, _, rfl, .inl ⟨SqL.of e7, fun pf2 hpf2 => ?_⟩⟩
    have s8 : Same H7 (upd H7 pf2 (.tup ((ks.map (fAt fs)).map formV))) := Same.new hpf2
    have ef8 : (upd H7 pf2 (.tup ((ks.map (fAt fs)).map formV))) pf2 = some (.tup ((ks.map (fAt fs)).map formV)) := upd_same
    generalize upd H7 pf2 (.tup ((ks.map (fAt fs)).map formV)) = H8 at *
    refine ⟨by show 3 ≤ sizeLine; decide, fun t2 ht2 => ?_⟩
    have s9 : Same H8 (upd H8 t2 (.tup [.int many, .ref pc2, .ref pf2])) := Same.new ht2
    have et9 : (upd H8 t2 (.tup [.int many, .ref pc2, .ref pf2])) t2 = some (.tup [.int many, .ref pc2, .ref pf2]) := upd_same
    generalize upd H8 t2 (.tup [.int many, .ref pc2, .ref pf2]) = H9 at *
    have s69 := s7.trans (s8.trans s9)
    have csub : ∀ c ∈ ks.map (cAt cells), c ∈ cells := fun c hc => by
      obtain ⟨k', hk', rfl⟩ := List.mem_map.mp hc
      exact List.mem_of_getElem? (cget k' hk')
    have fam : FamOk many (ks.map (cAt cells)) := by
      refine ⟨d.fok.lo, d.fok.hi, fun q => kne (List.map_eq_nil_iff.mp q), by rw [List.length_map]; exact lks, ?_, fun c hc => d.fok.ok c (csub c hc)⟩
      refine List.pairwise_map.mpr (knd.imp_of_mem fun {a b} ha hb ne e => ne ?_)
      have ga := cget a ha
      rw [e, ← cget b hb, List.getElem?_eq_getElem (kall a ha), List.getElem?_eq_getElem (kall b hb)] at ga
      exact (List.getElem_inj d.fok.nd).mp (Option.some.inj ga)
    have dn : Drawn H9 (.ref t2) many pc2 pf2 vs (ks.map (cAt cells)) (ks.map (fAt fs)) zs := ⟨⟨t2, rfl, et9⟩, s69 _ _ ec6, mk.keep (TFr.same (s6.trans s69)), fam, s9 _ _ ef8, by rw [List.length_map, List.length_map], fun y hy => by
      obtain ⟨k', hk', e⟩ := List.mem_map.mp hy
      exact d.mem y (by rw [← e]; exact List.mem_of_getElem? (fget k' hk')), d.few, d.wok⟩
    refine ⟨_, rfl, .ref t2, many, pc2, pf2, vs, _, _, zs, rfl, dn, fun t' fm' H10 ht' hf' s10 => ⟨_, rfl, t', fm', pf2, _, many, pc2, vs, _, man, rfl, ht', (dn.tfr (TFr.same s10)).fp, hf', (dn.tfr (TFr.same s10)).cp, (dn.tfr (TFr.same s10)).cm, fun c hc => (fam.ok c hc).le fam.hi, fam.len, by rw [List.length_map, List.length_map], hm, fun H11 s11 => ⟨_, rfl, _, _, rfl, ?_⟩⟩⟩
    rw [strip, show decide (madeB man (rowsOf cells fs) = madeB man (rowsOf cells fs)) = true from decide_eq_true rfl]
    exact k H11 (s04.trans (s46.trans (s69.trans (s10.trans s11))))
end
end Xci

namespace Xci
open PySem L2
def spGreatRight : Sp := fun vs H Q _ => ∃ (a ld : Addr) (man : Str), vs = [.ref a, .str man] ∧ Dice H a ld ∧ Man2 man ∧ ∀ H', Dice H' a ld → Fr a H H' → Q (.bl true) H'
section
variable {P : Program} {w : World} {K : PySem.W.Frag} {mg : Str → Option Value} {base : Heap}
abbrev sLawGreatRight : Stmt := top 61
theorem scLawGreatRight : FnScope ["dice", "manner", "every", "order", "cells", "at", "names", "entries", "name", "forms", "cell"] ["dice", "manner"] (defScope sLawGreatRight) := ⟨rfl, rfl, rfl, by decide +kernel, rfl, by decide +kernel, by decide +kernel⟩
set_option maxHeartbeats 8000000 in
theorem ok_greatRight {f : Addr} {fd : FuncData} (F : Fun K "_law_great_right" "_law_great_right" sLawGreatRight f fd) (T : Txt mg) (HL : Has P w K mg base "_law_all_cells" ["many"] 1 spAllCells) (HO : Has P w K mg base "_law_order" ["dice", "many"] 2 spOrder) (HT : Has P w K mg base "_law_draw" ["dice", "sides"] 1 spDraw) (HNm : Has P w K mg base "_law_names" ["dice", "many"] 2 spNames) (HSo : Has P w K mg base "_law_some" ["dice", "marks"] 2 spSome) (HSx : Has P w K mg base "_law_speaks" ["manner", "entries", "cell"] 2 spSpeaksN) (HRi : Has P w K mg base "_law_right" ["drawn", "manner"] 8 spLawRight) : FnOk P w K mg base CX0 9 f fd ["dice", "manner"] spGreatRight := by
  refine F.ok scLawGreatRight (fun vs H Q E h => ?_) (fun cdv A outer s H vs Q E hr h => ?_)
  · obtain ⟨a, ld, man, rfl, _⟩ := h
    rfl
  · obtain ⟨a, ld, man, rfl, hd, hm, k⟩ := h
    refine ⟨_, (C8.pss_cut (ps_set (i := 2) scLawGreatRight.nd rfl (by first | exact Or.inl rfl | exact Or.inr rfl) (pe_callH HL (hr.mono (by decide)) rfl (pa_cons pe_int pa_nil)))
      (C8.pss_cut (ps_set (i := 3) scLawGreatRight.nd rfl (by first | exact Or.inl rfl | exact Or.inr rfl) (pe_slice sl_list (pe_callH HO (hr.mono (by decide)) rfl (pa_cons (pv 0) (pa_cons pe_int pa_nil))) po_none (po_some (pe_op op_add pe_int (pe_callH HT (hr.mono (by decide)) rfl (pa_cons (pv 0) (pa_cons pe_int pa_nil)))))))
      (C8.pss_cut (ps_set (i := 4) scLawGreatRight.nd rfl (by first | exact Or.inl rfl | exact Or.inr rfl) (pe_callTy call_tuple_of rfl T.tuple (by decide +kernel) (pa_cons (pe_lc (own := [("at", 5)]) rfl scLawGreatRight.nd (pi_list (pv 3)) (blkOk_by (N := ["dice", "manner", "every", "order", "cells", "at", "names", "entries", "name", "forms", "cell"]) (sc := defScope sLawGreatRight) (by decide +kernel)) (fun _ _ _ _ _ => (pg_name (i := 5) scLawGreatRight.nd rfl (by first | exact Or.inl rfl | exact Or.inr rfl))) (fun _ _ _ _ _ => pts_nil) (fun _ _ _ _ _ => (pe_ix (show IxR _ (rIxL K) from ix_list) (pv 2) (pv 5) (fun _ _ => rfl)))) pa_nil)))
      (C8.pss_cut (ps_set (i := 6) scLawGreatRight.nd rfl (by first | exact Or.inl rfl | exact Or.inr rfl) (pe_callH HNm (hr.mono (by decide)) rfl (pa_cons (pv 0) (pa_cons pe_int pa_nil))))
      (C8.pss_cut (ps_set (i := 7) scLawGreatRight.nd rfl (by first | exact Or.inl rfl | exact Or.inr rfl) (pe_lc (own := [("name", 8)]) rfl scLawGreatRight.nd (pi_list (pv 6)) (blkOk_by (N := ["dice", "manner", "every", "order", "cells", "at", "names", "entries", "name", "forms", "cell"]) (sc := defScope sLawGreatRight) (by decide +kernel)) (fun _ _ _ _ _ => (pg_name (i := 8) scLawGreatRight.nd rfl (by first | exact Or.inl rfl | exact Or.inr rfl))) (fun _ _ _ _ _ => pts_nil) (fun _ _ _ _ _ => (pe_tup (pa_cons (pe_callH HSo (hr.mono (by decide)) rfl (pa_cons (pv 0) (pa_cons (pe_ix (show IxR _ (rIxT K) from ix_tup) (pv 4) (pe_callH HT (hr.mono (by decide)) rfl (pa_cons (pv 0) (pa_cons (pe_callB (show CallR _ _ (rLen K) from call_lenK) rfl T.len PySem.boot_len (pa_cons (pv 4) pa_nil)) pa_nil))) (fun _ _ => rfl)) pa_nil))) (pa_cons (pv 8) pa_nil))))))
      (C8.pss_cut (ps_setLc (i := 9) (own := [("cell", 10)]) rfl scLawGreatRight.nd rfl rfl (sw_true rfl rfl rfl (by decide +kernel)) (pi_tup (pv 4)) (blkOk_by (N := ["dice", "manner", "every", "order", "cells", "at", "names", "entries", "name", "forms", "cell"]) (sc := defScope sLawGreatRight) (by decide +kernel)) (fun _ _ _ _ _ => (pg_name (i := 10) scLawGreatRight.nd rfl (by first | exact Or.inl rfl | exact Or.inr rfl))) (fun _ _ _ _ _ => pts_nil) (fun _ _ _ _ _ => (pe_callH HSx (hr.mono (by decide)) rfl (pa_cons (pv 1) (pa_cons (pv 7) (pa_cons (pv 10) pa_nil))))))
      (C8.pss_cut (ps_if (pt_cmpR op_eq (pe_callH HT (hr.mono (by decide)) rfl (pa_cons (pv 0) (pa_cons pe_int pa_nil))) pe_int (nomark _)) (pss_one (ps_asg (pe_ix ix_list (pv 6) (pe_callH HT (hr.mono (by decide)) rfl (pa_cons (pv 0) (pa_cons pe_int pa_nil))) (fun _ _ => rfl)) (pg_sub (pv 9) (pe_callH HT (hr.mono (by decide)) rfl (pa_cons (pv 0) (pa_cons (pe_callB call_len rfl T.len PySem.boot_len (pa_cons (pv 9) pa_nil)) pa_nil))) set_list))) pss_nil)
      (pss_one (ps_ret (pe_callH HRi (hr.mono (by decide)) rfl (pa_cons (pe_tup (pa_cons pe_int (pa_cons (pv 4) (pa_cons (pe_callTy call_tuple_of rfl T.tuple (by decide +kernel) (pa_cons (pv 9) pa_nil)) pa_nil)))) (pa_cons (pv 1) pa_nil)))))))))))), ?_⟩
    refine ⟨fun σ' H1 => ∃ (q : Addr) (ys : List V) (cs : List (List Int)), H1 q = some (.lst ys) ∧ Mks H1 ys cs ∧ cs.Perm (lots (rng 6)) ∧ H q = none ∧ Same H H1 ∧ σ' = [some (.ref a), some (.str man), some (.ref q), none, none, none, none, none, none, none, none], ?_, ?_⟩
    · exact ⟨6, rfl, by decide, by decide, fun q ys cs H1 e m p s f => ⟨q, ys, cs, e, m, p, f, s, rfl⟩⟩
    rintro σ' H1 ⟨q, ys, cs, e1, mk1, perm, fq, s1, rfl⟩
    have ylen : ys.length = 64 := by rw [Paired.length mk1, perm.length_eq, lots_len, rng_len]; rfl
    have nq := hd.ne fq
    have hd1 := hd.keep s1
    refine ⟨fun σ' H2 => ∃ (r : Addr) (js : List Nat), H2 r = some (.lst ((nat2 js).map V.int)) ∧ js.Nodup ∧ 12 ≤ js.length ∧ js.length ≤ 24 ∧ (∀ j ∈ js, j < ys.length) ∧ H2 q = some (.lst ys) ∧ Mks H2 ys cs ∧ Dice H2 a ld ∧ Fr a H H2 ∧ σ' = [some (.ref a), some (.str man), some (.ref q), some (.ref r), none, none, none, none, none, none, none], ?_, ?_⟩
    · refine ⟨_, rfl, a, ld, 64, rfl, hd1, by decide, fun r js H2 pj er free hd2 f2 => ?_⟩
      refine ⟨_, rfl, a, ld, 13, rfl, hd2, by decide, by decide, fun d H3 d0 d1 hd3 f3 => ?_⟩
      have nr := hd1.ne free
      have er3 := f3 _ _ er nr
      obtain ⟨z, ez⟩ : ∃ z : Nat, 12 + d = (z : Int) := ⟨(12 + d).toNat, by omega⟩
      refine ⟨12, d, rfl, rfl, ?_⟩
      rw [show (fun i j : Int => V.int (i + j)) 12 d = V.int (z : Int) from congrArg V.int ez]
      refine ⟨_, rfl, r, _, rfl, SqL.of er3, fun u hu => ?_⟩
      have su : Same H3 (upd H3 u (.lst (cutV ((nat2 js).map V.int) none (some (z : Int))))) := Same.new hu
      have ce : cutV ((nat2 js).map V.int) none (some (z : Int)) = (nat2 (js.take z)).map V.int := by
        rw [cutTo]
        unfold nat2
        rw [List.map_take, List.map_take]
      have jl : js.length = 64 := by rw [pj.length_eq, List.length_range]
      refine ⟨u, js.take z, by rw [upd_same, ce], (pj.nodup_iff.mpr List.nodup_range).sublist (List.take_sublist _ _), by rw [List.length_take]; omega, by rw [List.length_take]; omega, fun j hj => by rw [ylen]; exact List.mem_range.mp (pj.subset (List.mem_of_mem_take hj)), su _ _ (f3 _ _ (f2 _ _ e1 nq) nq), (mk1.keep ((hd1.tfr f2).trans (hd2.tfr f3))).keep (TFr.same su), hd3.keep su, ((Fr.same s1).trans (f2.trans f3)).trans (Fr.same su), rfl⟩
    clear e1 mk1 hd1 s1
    rintro σ' H2 ⟨r, js, er, nd, j12, j24, jlt, eq, mq, hd2, f2, rfl⟩
    have csnd : cs.Nodup := perm.nodup_iff.mpr (lots_nd (rng_ok 6).nd)
    have clen : cs.length = ys.length := (Paired.length mq).symm
    have at_ : ∀ j ∈ js, cs[j]? = some (cs.getD j []) := fun j hj => by
      have := jlt j hj
      rw [List.getD_eq_getElem?_getD, List.getElem?_eq_getElem (show j < cs.length by omega)] <;> rfl
    have fam : FamOk 6 (cellsAt cs js) := by
      refine ⟨by decide, by decide, ?_, ?_, ?_, fun c hc => ?_⟩
      · intro e
        have := congrArg List.length e
        unfold cellsAt at this
        rw [List.length_map, List.length_nil] at this
        omega
      · unfold cellsAt
        rw [List.length_map]
        omega
      · unfold cellsAt List.Nodup
        rw [List.pairwise_map]
        refine List.Pairwise.imp_of_mem (fun {x y} hx hy ne e => ne ?_) nd
        have ax := at_ x hx
        have ay := at_ y hy
        rw [e] at ax
        exact (List.getElem?_inj (List.getElem?_eq_some_iff.mp ax).1 csnd).mp (ax.trans ay.symm)
      · obtain ⟨j, hj, rfl⟩ := List.mem_map.mp hc
        exact (rng_ok 6).sub (lots_sub (perm.subset (List.mem_of_getElem? (at_ j hj))))
    have lcells : (cellsAt cs js).length = js.length := by unfold cellsAt; rw [List.length_map]
    refine ⟨fun σ' H3 => ∃ (pc : Addr) (cy : List V), H3 pc = some (.tup cy) ∧ Mks H3 cy (cellsAt cs js) ∧ H pc = none ∧ Dice H3 a ld ∧ Fr a H H3 ∧ σ' = [some (.ref a), some (.str man), some (.ref q), some (.ref r), some (.ref pc), none, none, none, none, none, none], ?_, ?_⟩
    · refine ⟨_, rfl, r, rfl, ⟨_, SqL.of er⟩, fun D hD => ?_⟩
      refine lc_list (K := K) (a := r) (xs := (nat2 js).map V.int) (fun i H7 => Same H2 H7 ∧ H7 D = some (.lst ((js.take i).map fun j => ys.getD j .non))) ⟨Same.new hD, upd_same⟩ (fun i H7 _ ⟨e, _⟩ => SqL.of (e _ _ er)) ?_ ?_
      · rintro i x H7 hi ⟨s7, e7⟩
        obtain ⟨j, hj, rfl⟩ := num_of hi
        have jy := jlt j (List.mem_of_getElem? hj)
        have yat : ys[j]? = some (ys.getD j .non) := by rw [List.getD_eq_getElem?_getD, List.getElem?_eq_getElem jy] <;> rfl
        refine ⟨rfl, _, rfl, _, rfl, q, _, _, _, rfl, rfl, SqL.of (s7 _ _ eq), at_of (j := j) rfl yat, ?_⟩
        refine ⟨_, e7, by rw [List.length_map]; exact small1000 (Nat.le_trans (List.length_take_le _ _) (by have := (List.getElem?_eq_some_iff.mp hj).1; omega)), fun b o h => by rw [upd_ne (ne_of_none h hD)]; exact s7 b o h, ?_⟩
        rw [upd_same, List.take_add_one, hj, List.map_append]
        rfl
      · rintro H7 ⟨s7, e7⟩
        rw [List.length_map, nat2_len, List.take_length] at e7
        refine ⟨D, _, rfl, .inl ⟨SqL.of e7, fun p hp => ?_⟩⟩
        have s8 : Same H7 (upd H7 p (.tup (js.map fun j => ys.getD j .non))) := Same.new hp
        have s28 := s7.trans s8
        exact ⟨p, _, upd_same, Mks.keep (TFr.same s28) (cells_placed mq js fun j hj => by have := jlt j hj; omega), hd2.free f2 (s7.free hp), hd2.keep s28, f2.trans (Fr.same s28), rfl⟩
    rintro σ' H3 ⟨pc, cy, hc, mc, fpc, hd3, f3, rfl⟩
    generalize cellsAt cs js = cells at *
    clear er eq mq hd2 f2 at_
    have npc := hd.ne fpc
    have mpc := hd.ne' fpc
    have lcy : cy.length = cells.length := Paired.length mc
    have cok : ∀ c ∈ cells, MarksOk 6 c := fam.ok
    refine ⟨fun σ' H4 => ∃ (qn : Addr) (zs : List Str), H4 qn = some (.lst (zs.map V.str)) ∧ zs.length = 12 ∧ (∀ z ∈ zs, z ∈ nm13) ∧ H qn = none ∧ H4 pc = some (.tup cy) ∧ Mks H4 cy cells ∧ Dice H4 a ld ∧ Fr a H H4 ∧ σ' = [some (.ref a), some (.str man), some (.ref q), some (.ref r), some (.ref pc), none, some (.ref qn), none, none, none, none], ?_, ?_⟩
    · exact ⟨_, rfl, a, ld, 12, rfl, hd3, by decide, by decide, fun qn zs H4 en lz mz free hd4 f4 => ⟨qn, zs, en, by omega, mz, hd3.free f3 free, f4 _ _ hc npc, mc.keep (hd3.tfr f4), hd4, f3.trans f4, rfl⟩⟩
    rintro σ' H4 ⟨qn, zs, en, z12, mz, fqn, hc4, mc4, hd4, f4, rfl⟩
    have nqn := hd.ne fqn
    have mqn := hd.ne' fqn
    have zl : (zs.map V.str).length = zs.length := List.length_map _
    have name_at : ∀ {d : Int}, 0 ≤ d → d < (zs.length : Int) → ∃ z, (zs.map V.str)[d.toNat]? = some (V.str z) ∧ z ∈ zs := fun {d} d0 d1 => ⟨zs[d.toNat]'(by omega), by rw [List.getElem?_map, List.getElem?_eq_getElem (by omega)]; rfl, List.getElem_mem _⟩
    refine ⟨fun σ' H5 => ∃ (qe : Addr) (ws : List V) (es : List Ent), H5 qe = some (.lst ws) ∧ Ents H5 ws es ∧ es.length = 12 ∧ (∀ e ∈ es, e.2 ∈ zs) ∧ (∀ e ∈ es, e.1.length ≤ 6) ∧ H5 qn = some (.lst (zs.map V.str)) ∧ H5 pc = some (.tup cy) ∧ Mks H5 cy cells ∧ Dice H5 a ld ∧ Fr a H H5 ∧ σ' = [some (.ref a), some (.str man), some (.ref q), some (.ref r), some (.ref pc), none, some (.ref qn), some (.ref qe), none, none, none], ?_, ?_⟩
    · refine ⟨_, rfl, qn, rfl, ⟨_, SqL.of en⟩, fun D hD => ?_⟩
      have fD := hd4.free f4 hD
      have nD := hd.ne fD
      have mD := hd.ne' fD
      have pD : pc ≠ D := ne_of_none hc4 hD
      have qD : qn ≠ D := ne_of_none en hD
      refine lc_list (K := K) (a := qn) (xs := zs.map V.str) (fun i H5 => ∃ (ws : List V) (es : List Ent), H5 D = some (.lst ws) ∧ Ents H5 ws es ∧ es.length = i ∧ (∀ e ∈ es, e.2 ∈ zs) ∧ (∀ e ∈ es, e.1.length ≤ 6) ∧ H5 qn = some (.lst (zs.map V.str)) ∧ H5 pc = some (.tup cy) ∧ Mks H5 cy cells ∧ Dice H5 a ld ∧ Fr a H H5)
        ⟨[], [], upd_same, .nil, rfl, nofun, nofun, (Same.new hD) _ _ en, (Same.new hD) _ _ hc4, mc4.keep (TFr.new hD), hd4.keep (Same.new hD), f4.trans (Fr.new hD)⟩ (fun i H5 _ ⟨_, _, _, _, _, _, _, e, _⟩ => SqL.of e) ?_ ?_
      · rintro i x H5 hi ⟨ws, es, e5, en5, le, mem, short, eq5, cp5, mc5, hd5, f5⟩
        rw [List.getElem?_map] at hi
        obtain ⟨z, hz, rfl⟩ := Option.map_eq_some_iff.mp hi
        have lt := (List.getElem?_eq_some_iff.mp hz).1
        have zin := List.mem_of_getElem? hz
        have cpos : 0 < cells.length := List.length_pos_iff.mpr fam.ne
        have := fam.len
        refine ⟨rfl, _, rfl, _, rfl, _, rfl, _, rfl, _, cy.length, rfl, .inr ⟨_, sqT cp5, rfl⟩, a, ld, _, rfl, hd5, by omega, by omega, fun d H6 d0 d1 hd6 f6 => ?_⟩
        have lj : d.toNat < cy.length := by omega
        have gc : cy[d.toNat]? = some cy[d.toNat] := List.getElem?_eq_getElem lj
        have cp6 := f6 _ _ cp5 npc
        obtain ⟨c, ec, mcell⟩ := Paired.get (mc5.keep (hd5.tfr f6)) gc
        have okc := cok c (List.mem_of_getElem? ec)
        refine ⟨pc, _, _, _, rfl, rfl, sqT cp6, at_of (j := d.toNat) (by omega) gc, .inl ⟨a, ld, _, c, rfl, hd6, mcell, Nat.le_trans (marks_few okc) (by decide), fun u ks H7 mu sub hd7 f7 => ?_⟩⟩
        have fr57 := f6.trans f7
        have fr7 := f5.trans fr57
        refine ⟨_, rfl, by show 2 ≤ sizeLine; decide, fun t ht => ?_⟩
        have s8 : Same H7 (upd H7 t (.tup [u, .str z])) := Same.new ht
        have e8 : (upd H7 t (.tup [u, .str z])) t = some (.tup [u, .str z]) := upd_same
        generalize upd H7 t (.tup [u, .str z]) = H8 at *
        have e5' := s8 _ _ (fr57 _ _ e5 nD)
        have tf8 : TFr H5 H8 := (hd5.tfr fr57).trans (TFr.same s8)
        have en8 : Ents H8 ws es := Ents.keep tf8 en5
        have eq8 := s8 _ _ (fr57 _ _ eq5 nqn)
        have cp8 := s8 _ _ (fr57 _ _ cp5 npc)
        have mu8 : Xci.Mk H8 u ks := Tup.keep (TFr.same s8) mu
        have ly : ws.length ≤ 12 := by rw [Paired.length en5]; omega
        have tf : TFr H8 (upd H8 D (.lst (ws ++ [.ref t]))) := TFr.lst e5'
        refine ⟨ws, e5', small1000 (by omega), ws ++ [.ref t], es ++ [(ks, z)], upd_same, ?_, by rw [List.length_append, le]; rfl, fun e he => ?_, fun e he => ?_, by rw [upd_ne qD]; exact eq8, by rw [upd_ne pD]; exact cp8, (mc5.keep tf8).keep tf, (hd7.keep s8).put nD mD, fun b o h n => by rw [upd_ne (ne_of_none h fD)]; exact s8 _ _ (fr7 _ _ h n)⟩
        · exact Paired.app (Ents.keep tf en8) (Paired.one ⟨u, ⟨t, rfl, tf _ _ e8⟩, Tup.keep tf mu8⟩)
        · rcases List.mem_append.mp he with h | h
          · exact mem e h
          · rw [List.mem_singleton.mp h]; exact zin
        · rcases List.mem_append.mp he with h | h
          · exact short e h
          · rw [List.mem_singleton.mp h]; exact Nat.le_trans sub.length_le (marks_few okc)
      · rintro H5 ⟨ws, es, e5, en5, le, mem, short, eq5, cp5, mc5, hd5, f5⟩
        exact ⟨D, ws, es, e5, en5, by rw [le, zl, z12], mem, short, eq5, cp5, mc5, hd5, f5, rfl⟩
    rintro σ' H5 ⟨qe, ws, es, ee, ens, le, mem, short, en5, hc5, mc5, hd5, f5, rfl⟩
    clear en hc4 mc4 hd4 f4
    refine ⟨fun σ' H6 => ∃ (D : Addr) (fs : List (Option Str)), H6 D = some (.lst (fs.map formV)) ∧ fs.length = cells.length ∧ (∀ z, some z ∈ fs → z ∈ zs) ∧ H D = none ∧ H6 qn = some (.lst (zs.map V.str)) ∧ H6 pc = some (.tup cy) ∧ Mks H6 cy cells ∧ Dice H6 a ld ∧ Fr a H H6 ∧ σ' = [some (.ref a), some (.str man), some (.ref q), some (.ref r), some (.ref pc), none, some (.ref qn), some (.ref qe), none, some (.ref D), none], ?_, ?_⟩
    · refine ⟨_, rfl, pc, rfl, ⟨_, sqT hc5⟩, fun D hD => ?_⟩
      refine lc_tup (K := K) (a := pc) (xs := cy) (fun i H6 => ∃ fs : List (Option Str), Same H5 H6 ∧ H6 D = some (.lst (fs.map formV)) ∧ fs.length = i ∧ ∀ z, some z ∈ fs → z ∈ zs) ⟨[], Same.new hD, upd_same, rfl, nofun⟩ (fun i H6 _ ⟨_, e, _⟩ => sqT (e _ _ hc5)) ?_ ?_
      · rintro i x H6 hi ⟨fs, s6, e6, lf, mf⟩
        have lt := (List.getElem?_eq_some_iff.mp hi).1
        obtain ⟨c, ec, mcell⟩ := Paired.get (mc5.keep (TFr.same s6)) hi
        have okc := cok c (List.mem_of_getElem? ec)
        have := fam.len
        refine ⟨rfl, _, rfl, _, rfl, _, rfl, man, qe, ws, es, x, c, rfl, s6 _ _ ee, Ents.keep (TFr.same s6) ens, fun e he => Nat.le_trans (short e he) (by decide), by omega, mcell, Nat.le_trans (marks_few okc) (by decide), fun fo H7 told s7 => ?_⟩
        refine ⟨_, s7 _ _ e6, by rw [List.length_map]; exact small1000 (by omega), fs ++ [fo], fun b o h => by rw [upd_ne (ne_of_none h hD)]; exact s7 _ _ (s6 b o h), by rw [upd_same, List.map_append]; rfl, by rw [List.length_append, lf]; rfl, fun y hy => ?_⟩
        rcases List.mem_append.mp hy with h | h
        · exact mf y h
        · obtain ⟨e, he, ez⟩ := List.mem_map.mp (told y (List.mem_singleton.mp h).symm)
          rw [← ez]; exact mem e he
      · rintro H6 ⟨fs, s6, e6, lf, mf⟩
        exact ⟨D, fs, e6, by omega, mf, hd5.free f5 hD, s6 _ _ en5, s6 _ _ hc5, mc5.keep (TFr.same s6), hd5.keep s6, f5.trans (Fr.same s6), rfl⟩
    rintro σ' H6 ⟨D, fs, e6, lf, mf, fD, en6, hc6, mc6, hd6, f6, rfl⟩
    clear ee ens en5 hc5 mc5 hd5 f5
    have nD := hd.ne fD
    have mD := hd.ne' fD
    refine ⟨fun σ' H7 => ∃ fs : List (Option Str), H7 D = some (.lst (fs.map formV)) ∧ fs.length = cells.length ∧ (∀ z, some z ∈ fs → z ∈ zs) ∧ H7 pc = some (.tup cy) ∧ Mks H7 cy cells ∧ Dice H7 a ld ∧ Fr a H H7 ∧ σ' = [some (.ref a), some (.str man), some (.ref q), some (.ref r), some (.ref pc), none, some (.ref qn), some (.ref qe), none, some (.ref D), none], ?_, ?_⟩
    · refine ⟨_, rfl, a, ld, 2, rfl, hd6, by decide, by decide, fun x H7 _ _ hd7 f7 => ⟨rfl, _, rfl, ?_⟩⟩
      have e7 := f7 _ _ e6 nD
      have hc7 := f7 _ _ hc6 npc
      have mc7 := mc6.keep (hd6.tfr f7)
      refine ite2 (fun _ => ?_) (fun _ => ⟨fs, e7, lf, mf, hc7, mc7, hd7, f6.trans f7, rfl⟩)
      have en7 := f7 _ _ en6 nqn
      have := fam.len
      have cpos : 0 < cells.length := List.length_pos_iff.mpr fam.ne
      refine ⟨_, rfl, _, rfl, a, ld, 12, rfl, hd7, by decide, by decide, fun d H8 d0 d1 hd8 f8 => ?_⟩
      obtain ⟨z, ez, hz⟩ := name_at d0 (by omega)
      refine ⟨qn, _, _, _, rfl, rfl, SqL.of (f8 _ _ en7 nqn), at_of (j := d.toNat) (by omega) ez, ?_⟩
      have e8 := f8 _ _ e7 nD
      refine ⟨_, rfl, _, rfl, _, rfl, _, fs.length, rfl, .inl ⟨_, SqL.of e8, by rw [List.length_map]⟩, a, ld, _, rfl, hd8, by omega, by omega, fun d' H9 g0 g1 hd9 f9 => ?_⟩
      have e9 := f9 _ _ e8 nD
      refine ⟨D, _, d', d'.toNat, rfl, rfl, e9, ?_, ?_⟩
      · unfold ixN
        rw [if_pos g0, if_pos (by rw [List.length_map]; exact g1)]
      · have f79 := f8.trans f9
        have pD : pc ≠ D := fun w => by rw [w, e6] at hc6; cases hc6
        refine ⟨fs.set d'.toNat (some z), by rw [upd_same, List.map_set]; rfl, by rw [List.length_set]; exact lf, fun y hy => ?_, by rw [upd_ne pD]; exact f79 _ _ hc7 npc, (mc7.keep (hd7.tfr f79)).keep (TFr.lst e9), hd9.put nD mD, fun b o h n => by rw [upd_ne (ne_of_none h fD)]; exact f79 _ _ (f7 _ _ (f6 _ _ h n) n) n, rfl⟩
        rcases List.mem_or_eq_of_mem_set hy with h | h
        · exact mf y h
        · cases h; exact hz
    rintro σ' H7 ⟨fs, e7, lf, mf, hc7, mc7, hd7, f7, rfl⟩
    refine ⟨_, rfl, _, rfl, D, _, rfl, .inl ⟨SqL.of e7, fun pf hpf => ?_⟩⟩
    have s8 : Same H7 (upd H7 pf (.tup (fs.map formV))) := Same.new hpf
    have ef8 : (upd H7 pf (.tup (fs.map formV))) pf = some (.tup (fs.map formV)) := upd_same
    generalize upd H7 pf (.tup (fs.map formV)) = H8 at *
    refine ⟨by show 3 ≤ sizeLine; decide, fun t ht => ?_⟩
    have s9 : Same H8 (upd H8 t (.tup [.int 6, .ref pc, .ref pf])) := Same.new ht
    have et : (upd H8 t (.tup [.int 6, .ref pc, .ref pf])) t = some (.tup [.int 6, .ref pc, .ref pf]) := upd_same
    generalize upd H8 t (.tup [.int 6, .ref pc, .ref pf]) = H9 at *
    have s79 := s8.trans s9
    have dn : Drawn H9 (.ref t) 6 pc pf cy cells fs zs := ⟨⟨t, rfl, et⟩, s79 _ _ hc7, mc7.keep (TFr.same s79), fam, s9 _ _ ef8, lf, mf, by omega, mz⟩
    exact ⟨_, rfl, .ref t, 6, pc, pf, cy, cells, fs, zs, man, rfl, dn, hm, fun H10 s10 => k H10 ((hd7.keep s79).keep s10) ((f7.trans (Fr.same s79)).trans (Fr.same s10))⟩
end
end Xci

namespace Xci
open PySem PySem.Spec PyProof.Rows L2
/-! list.count of flat values; isinstance of the caught error, whichever class flew; comprehensions with two generators -/
def rCntF (K : PySem.W.Frag) : V → List V → Hp → VK → Prop := fun x xs H Q => ∃ (p : Addr) (ys : List V) (y : V), x = .ref p ∧ xs = [y] ∧ SqL K H p ys ∧ flatV y = true ∧ ys.all flatV = true ∧ Q (.int ((ys.countP fun z => eqV z y) : Nat)) H
theorem count_eqU {y : V} : ∀ {ys : List V} {us : List Value}, Vals ys us → ys.all flatV = true → us.countP (eqU y) = ys.countP fun z => eqV z y
  | _, _, .nil, _ => rfl
  | _, _, .cons r rs, f => by
    rw [List.all_cons, Bool.and_eq_true] at f
    rw [List.countP_cons, List.countP_cons, eqU_of r f.1, count_eqU rs f.2]
theorem mt_countF {X : Cx} : MtR X "list.count" (rCntF X.K) := by
  intro pins s σ H x xs v us Q I rx rxs h
  obtain ⟨p, ys, y, rfl, rfl, sq, fy, fys, q⟩ := h
  cases rx
  obtain ⟨u, rfl, ru⟩ := rxs.one
  obtain ⟨its, rv, ⟨⟨cls, dd, data, sl⟩, n, at_, kind, hdn, datum⟩, hlen⟩ := I.list sq
  simp only at kind datum
  subst kind datum
  have told := count_eqU (y := y) rv fys
  have body := SeqAt.list_countAt p its.toArray n dd sl u (eqU y)
  refine call_meets PySem.F.slot_list_count ⟨_, at_, rfl⟩ PySem.F.entry_list_count (PySem.F.args_list_count_2 _ _) body ⟨at_, fun w hw => mem_eqAt ru fy rv fys w (by simpa using hw), .int _, H, I.tok _, ⟨s.toks, ?_⟩, q⟩
  show Value.int ((its.countP (eqU y) : Nat) : Int) s.toks = _
  rw [told]
def rIsEx (K : PySem.W.Frag) (cls : Value) (d : Option Addr) (a : Addr) : List V → Hp → VK → Prop := fun xs H Q => ∃ D : Addr, ExcC K D ∧ cls = .ref D ∧ d = none ∧ rIsE K D a xs H Q
theorem call_isEx {X : Cx} {a : Addr} {cls : Value} {d : Option Addr} {oe : Obj} {pn : List (Addr × Obj)} (hz : Zc cls d oe) (hf : ∃ vs, oe.data = .fields vs) : CallR (X.suite a ((a, oe) :: pn)) (.builtin "isinstance") (rIsEx X.K cls d a) := by
  intro pins s σ H xs us Q I r h
  obtain ⟨D, ex, rfl, rfl, h⟩ := h
  exact call_isE ex hz hf pins s σ H xs us Q I r h
section
variable {J J1 : It} {n n1 : Nat} {G G1 : Hp → Prop} {Y Y1 : Nat → Hp → V → Hp → Prop} {Qd Nx : Hp → Prop} {D : Addr}
/-- the walk of a comprehension's generator, its turn left open -/
theorem turns (w : Walk J n G Y) (Pv : Nat → Hp → Prop) (T : (Hp → Prop) → V → Hp → Prop) {H1 : Hp} (h0 : Pv 0 H1) (hG : ∀ i H, i ≤ n → Pv i H → G H)
    (hs : ∀ i x H H', i < n → Pv i H → Y i H x H' → T (Pv (i + 1)) x H') (hd : ∀ H, Pv n H → Qd H) :
    ∃ W : Nat → Nat → Hp → Prop, (∃ m, W 0 m H1) ∧ ∀ i m H, W i m H → (J.stop i H ∧ Qd H) ∨ (J.go i H ∧ ∃ Nx : Hp → Prop, (∀ H', Nx H' → ∃ m', m' < m ∧ W (i + 1) m' H') ∧ ∀ x H', J.yld i H x H' → T Nx x H') := by
  refine ⟨fun i m H => m + i = n ∧ Pv i H, ⟨n, rfl, h0⟩, fun i m H ⟨e, p⟩ => ?_⟩
  have at_ := hG i H (by omega) p
  rcases Nat.lt_or_ge i n with lt | ge
  · exact .inr ⟨w.goes i H lt at_, _, fun H' p' => ⟨m - 1, by omega, by omega, p'⟩, fun x H' y => hs i x H H' lt p (w.yields i H x H' lt at_ y)⟩
  · have all : i = n := by omega
    rw [all] at p ⊢
    exact .inl ⟨w.stops H (hG n H (Nat.le_refl _) p), hd H p⟩
end
end Xci

namespace Xci
open PySem L2
def spSpeaksT : Sp := fun vs H Q _ => ∃ (man : Str) (q : Addr) (ys : List V) (es : List Ent) (v : V) (c : List Int), vs = [.str man, .ref q, v] ∧ H q = some (.tup ys) ∧ Ents H ys es ∧ (∀ e ∈ es, e.1.length ≤ 1000) ∧ es.length ≤ 100 ∧ Xci.Mk H v c ∧ c.length ≤ 1000 ∧
  ∀ (H' : Hp), Same H H' → Q (formV (speaksX man es c)) H'
theorem ne_mksX {K : PySem.W.Frag} {H : Hp} {u v : V} {a b : List Int} {Q : V → Hp → Prop} (hu : Xci.Mk H u a) (hv : Xci.Mk H v b) (q : Q (.bl (!decide (a = b))) H) : rNeD K u v H Q := by
  refine ⟨_, _, dp_mk hu, dp_mk hv, sh_mk a, sh_mk b, ?_⟩
  rw [show PyData.eqv (mkD a) (mkD b) = decide (a = b) by unfold mkD; simp only [PyData.eqv]; exact eqvAll_ints a b]
  exact q
theorem fits_next {es : List Ent} {i : Nat} {e : Ent} (c : List Int) (h : es[i]? = some e) : fitsE (es.take (i + 1)) c = fitsE (es.take i) c ++ (if inside e.1 c = true then [e] else []) := by
  unfold fitsE
  rw [List.take_add_one, h, List.filter_append]
  by_cases q : inside e.1 c = true
  · rw [if_pos q]; simp [q]
  · rw [if_neg q]; simp [q]
theorem less_next {fs : List Ent} {j : Nat} {o : Ent} (e : Ent) (h : fs[j]? = some o) : (lessE (fs.take (j + 1)) e).length = (lessE (fs.take j) e).length + (if (inside o.1 e.1 && decide (o.1 ≠ e.1)) = true then 1 else 0) := by
  unfold lessE
  rw [List.take_add_one, h, List.filter_append, List.length_append]
  by_cases q : (inside o.1 e.1 && decide (o.1 ≠ e.1)) = true
  · rw [if_pos q, show (some o).toList = [o] from rfl, List.filter_cons_of_pos (p := fun o : Ent => inside o.1 e.1 && decide (o.1 ≠ e.1)) q]; rfl
  · rw [if_neg q, show (some o).toList = [o] from rfl, List.filter_cons_of_neg (p := fun o : Ent => inside o.1 e.1 && decide (o.1 ≠ e.1)) q]; rfl
section
variable {P : Program} {w : World} {K : PySem.W.Frag} {mg : Str → Option Value} {base : Heap}
set_option maxHeartbeats 8000000 in
theorem ok_speaksT {f : Addr} {fd : FuncData} (F : Fun K "_law_speaks" "_law_speaks" sLawSpeaks f fd) (T : Txt mg) (HW : Has P w K mg base "_law_within" ["one", "other"] 1 spIn) : FnOk P w K mg base CX0 2 f fd ["manner", "entries", "cell"] spSpeaksT := by
  refine F.ok scLawSpeaks (fun vs H Q E h => ?_) (fun cdv A outer s H vs Q E hr h => ?_)
  · obtain ⟨man, q, ys, es, v, c, rfl, _⟩ := h
    rfl
  · obtain ⟨man, q, ys, es, v, c, rfl, hq, ents, elen, few, mv, clen, k⟩ := h
    refine ⟨_, (C8.pss_cut (ps_setLc (i := 3) (own := [("entry", 4)]) rfl scLawSpeaks.nd rfl rfl (sw_true rfl rfl rfl (by decide +kernel)) (pi_tup (pv 1)) (blkOk_by (N := ["manner", "entries", "cell", "fits", "entry", "less", "other"]) (sc := defScope sLawSpeaks) (by decide +kernel)) (fun _ _ _ _ _ => (pg_name (i := 4) scLawSpeaks.nd rfl (by first | exact Or.inl rfl | exact Or.inr rfl))) (fun _ _ _ _ _ => pts_one (pt_val (pe_callH HW (hr.mono (by decide)) rfl (pa_cons (pe_ix (show IxR _ (rIxT K) from ix_tup) (pv 4) pe_int (fun _ _ => rfl)) (pa_cons (pv 2) pa_nil))))) (fun _ _ _ _ _ => (pv 4)))
      (pss_cons (ps_if (pt_cmpR op_eq (pv 0) pe_str (nomark _)) (pss_one (ps_ret (pe_ifExp (pt_cmpR op_gt (pe_callB call_len rfl T.len PySem.boot_len (pa_cons (pv 3) pa_nil)) pe_int (nomark _)) (pe_ix ix_tup (pe_ix ix_list (pv 3) pe_int (fun _ _ => rfl)) pe_int (fun _ _ => rfl)) pe_non))) pss_nil)
      (pss_cons (ps_for PassesOwn.never rfl (pi_list (pv 3)) (pg_name (i := 4) scLawSpeaks.nd rfl (by first | exact Or.inl rfl | exact Or.inr rfl)) (pss_cons (ps_setLc (i := 5) (own := [("other", 6)]) rfl scLawSpeaks.nd rfl rfl (sw_true rfl rfl rfl (by decide +kernel)) (pi_list (pv 3)) (blkOk_by (N := ["manner", "entries", "cell", "fits", "entry", "less", "other"]) (sc := defScope sLawSpeaks) (by decide +kernel)) (fun _ _ _ _ _ => (pg_name (i := 6) scLawSpeaks.nd rfl (by first | exact Or.inl rfl | exact Or.inr rfl))) (fun _ _ _ _ _ => pts_one (PW.pt (pw_and (pt_val (pe_callH HW (hr.mono (by decide)) rfl (pa_cons (pe_ix (show IxR _ (rIxT K) from ix_tup) (pv 6) pe_int (fun _ _ => rfl)) (pa_cons (pe_ix (show IxR _ (rIxT K) from ix_tup) (pv 4) pe_int (fun _ _ => rfl)) pa_nil)))) (pw_and1 (pt_cmpR (show OpR _ _ (rNeD K) from op_neD (hu64 hr)) (pe_ix (show IxR _ (rIxT K) from ix_tup) (pv 6) pe_int (fun _ _ => rfl)) (pe_ix (show IxR _ (rIxT K) from ix_tup) (pv 4) pe_int (fun _ _ => rfl)) (nomark _)))))) (fun _ _ _ _ _ => (pv 6)))
      (pss_one (ps_if (pt_cmpR op_eq (pe_callB call_len rfl T.len PySem.boot_len (pa_cons (pv 5) pa_nil)) (pe_op op_sub (pe_callB call_len rfl T.len PySem.boot_len (pa_cons (pv 3) pa_nil)) pe_int) (nomark _)) (pss_one (ps_ret (pe_ix ix_tup (pv 4) pe_int (fun _ _ => rfl)))) pss_nil))))
      (pss_one (ps_ret pe_non))))), ?_⟩
    have lys := Paired.length ents
    refine ⟨fun σ' H1 => ∃ (d : Addr) (zs : List V), Same H H1 ∧ H1 d = some (.lst zs) ∧ Ents H1 zs (fitsE es c) ∧ ∃ o4 : Option V, σ' = [some (.str man), some (.ref q), some v, some (.ref d), o4, none, none], ?_, ?_⟩
    · refine ⟨_, rfl, q, rfl, ⟨_, sqT hq⟩, fun D hD => ?_⟩
      refine lc_tup (K := K) (a := q) (xs := ys) (fun i H4 => ∃ (zs : List V), Same H H4 ∧ H4 D = some (.lst zs) ∧ Ents H4 zs (fitsE (es.take i) c)) ⟨[], Same.new hD, upd_same, .nil⟩ (fun i H4 _ ⟨_, e, _⟩ => sqT (e _ _ hq)) ?_ ?_
      · rintro i x H4 hi ⟨zs, sm, e4, en4⟩
        obtain ⟨e, ee, u, ⟨tp, rfl, htp⟩, mu⟩ := Paired.get (Ents.keep (TFr.same sm) ents) hi
        have me := List.mem_of_getElem? ee
        have lz : zs.length ≤ 100 := by
          rw [Paired.length en4]
          have h1 := List.length_filter_le (fun e : Ent => inside e.1 c) (es.take i)
          rw [List.length_take] at h1
          unfold fitsE
          omega
        refine ⟨rfl, _, rfl, tp, _, _, _, rfl, rfl, sqT htp, at_of (j := 0) rfl rfl, _, rfl, u, v, e.1, c, rfl, mu, Tup.keep (TFr.same sm) mv, elen e me, fun H5 s5 => ⟨_, rfl, ?_⟩⟩
        have fx := fits_next c ee
        refine ite2 (fun w => ?_) (fun w => ?_)
        · refine ⟨_, rfl, zs, s5 _ _ e4, small1000 (by omega), zs ++ [.ref tp], fun b o h => by rw [upd_ne (ne_of_none h hD)]; exact s5 _ _ (sm b o h), upd_same, ?_⟩
          have tf : TFr H5 (upd H5 D (.lst (zs ++ [.ref tp]))) := TFr.lst (s5 _ _ e4)
          rw [fx, if_pos w]
          exact Paired.app (Ents.keep tf (Ents.keep (TFr.same s5) en4)) (Paired.one (EntV.keep tf (EntV.keep (TFr.same s5) ⟨u, ⟨tp, rfl, htp⟩, mu⟩)))
        · refine ⟨zs, sm.trans s5, s5 _ _ e4, ?_⟩
          rw [fx, if_neg w, List.append_nil]
          exact Ents.keep (TFr.same s5) en4
      · rintro H4 ⟨zs, sm, e4, en4⟩
        rw [List.take_of_length_le (by rw [lys]; exact Nat.le_refl _)] at en4
        exact ⟨D, zs, sm, e4, en4, _, rfl⟩
    rintro σ' H1 ⟨d, zs, s1, e1, en1, o4, rfl⟩
    generalize hfs : fitsE es c = fs at *
    have lzs := Paired.length en1
    have sub : ∀ e ∈ fs, e ∈ es := fun e he => by rw [← hfs] at he; exact (List.mem_filter.mp he).1
    have lf : fs.length ≤ 100 := by
      rw [← hfs]
      exact Nat.le_trans (List.length_filter_le _ _) few
    refine ⟨_, rfl, rfl, _, rfl, ?_⟩
    refine ite2 (fun isr => ?_) (fun nisr => ?_)
    · have hm : man = "row" := V.str.inj (of_decide_eq_true isr)
      have sx : speaksX man es c = fs.head?.map (·.2) := by unfold speaksX; rw [if_pos hm, hfs]
      refine ⟨_, rfl, _, zs.length, rfl, .inl ⟨_, SqL.of e1, rfl⟩, _, _, rfl, rfl, _, rfl, ?_⟩
      refine ite2 (fun is => ?_) (fun no => ?_)
      · have pos : (0 : Int) < ((zs.length : Nat) : Int) := of_decide_eq_true is
        have g0 : zs[0]? = some (zs[0]'(by omega)) := List.getElem?_eq_getElem (by omega)
        obtain ⟨e, ee, u, ⟨tp, etp, htp⟩, mu⟩ := Paired.get en1 g0
        rw [etp] at g0
        have fin : speaksX man es c = some e.2 := by rw [sx, List.head?_eq_getElem?, ee]; rfl
        have := k H1 s1
        rw [fin] at this
        exact ⟨_, rfl, d, _, _, _, rfl, rfl, SqL.of e1, at_of (j := 0) rfl g0, tp, _, _, _, rfl, rfl, sqT htp, at_of (j := 1) rfl rfl, this⟩
      · have z0 : fs = [] := by
          have : ¬ (0 : Int) < ((zs.length : Nat) : Int) := fun z => no (decide_eq_true z)
          exact List.length_eq_zero_iff.mp (by omega)
        have fin : speaksX man es c = none := by rw [sx, z0]; rfl
        have := k H1 s1
        rw [fin] at this
        exact this
    have hm : ¬ man = "row" := fun z => nisr (decide_eq_true (by rw [z]))
    have sx : speaksX man es c = (topE fs).map (·.2) := by unfold speaksX; rw [if_neg hm, hfs]
    refine ⟨_, rfl, d, rfl, ⟨_, SqL.of e1⟩, ?_⟩
    refine for_list (K := K) (a := d) (xs := zs) (fun i σ H2 => Same H1 H2 ∧ (∀ i' < i, ∀ e, fs[i']? = some e → decide ((lessE fs e).length + 1 = fs.length) = false) ∧ ∃ o4 o5 : Option V, σ = [some (.str man), some (.ref q), some v, some (.ref d), o4, o5, none]) ⟨Same.refl H1, fun i hi => absurd hi (Nat.not_lt_zero _), _, _, rfl⟩ (fun i σ H2 _ ⟨e, _⟩ => SqL.of (e _ _ e1)) ?_ ?_
    · rintro i x σ H2 hi ⟨s2, no, o4', o5, rfl⟩
      obtain ⟨e, ee, u, ⟨tp, rfl, htp⟩, mu⟩ := Paired.get (Ents.keep (TFr.same s2) en1) hi
      have me := sub e (List.mem_of_getElem? ee)
      have e2 := s2 _ _ e1
      refine ⟨_, rfl, d, rfl, ⟨_, SqL.of e2⟩, fun D2 hD2 => ?_⟩
      refine lc_list (K := K) (a := d) (xs := zs) (fun i HA => ∃ acc : List V, Same H2 HA ∧ HA D2 = some (.lst acc) ∧ acc.length = (lessE (fs.take i) e).length) ⟨[], Same.new hD2, upd_same, rfl⟩ (fun i HA _ ⟨_, e, _⟩ => SqL.of (e _ _ e2)) ?_ ?_
      · rintro j y HA hj ⟨acc, sA, eA, la⟩
        have ltj := (List.getElem?_eq_some_iff.mp hj).1
        obtain ⟨e', ee', u', ⟨tp', rfl, htp'⟩, mu'⟩ := Paired.get (Ents.keep (TFr.same (s2.trans sA)) en1) hj
        refine ⟨rfl, ?_⟩
        have ln := less_next e ee'
        have lac : acc.length ≤ 100 := by
          rw [la]
          have h1 := List.length_filter_le (fun o : Ent => inside o.1 e.1 && decide (o.1 ≠ e.1)) (fs.take j)
          rw [List.length_take] at h1
          unfold lessE
          omega
        have keepsA : Same H1 HA := s2.trans sA
        have htpA := sA _ _ htp
        have muA : Xci.Mk HA u e.1 := Tup.keep (TFr.same sA) mu
        refine ⟨_, rfl, tp', _, _, _, rfl, rfl, sqT htp', at_of (j := 0) rfl rfl, _, rfl, tp, _, _, _, rfl, rfl, sqT htpA, at_of (j := 0) rfl rfl, u', u, e'.1, e.1, rfl, mu', muA, elen e' (sub e' (List.mem_of_getElem? ee')), fun H5 s5 => ⟨_, rfl, ?_⟩⟩
        refine ite2 (fun ins => ?_) (fun ins => iteF ⟨acc, sA.trans s5, s5 _ _ eA, ?_⟩)
        · have mu5 : Xci.Mk H5 u e.1 := Tup.keep (TFr.same s5) muA
          have mu5' : Xci.Mk H5 u' e'.1 := Tup.keep (TFr.same s5) mu'
          refine ⟨_, rfl, tp', _, _, _, rfl, rfl, sqT (s5 _ _ htp'), at_of (j := 0) rfl rfl, _, rfl, tp, _, _, _, rfl, rfl, sqT (s5 _ _ htpA), at_of (j := 0) rfl rfl, ne_mksX mu5' mu5 ⟨_, rfl, ?_⟩⟩
          refine ite2 (fun ne => ?_) (fun ne => ⟨acc, sA.trans s5, s5 _ _ eA, ?_⟩)
          · have ne' : e'.1 ≠ e.1 := fun z => by rw [z, decide_eq_true rfl] at ne; cases ne
            refine ⟨_, rfl, acc, s5 _ _ eA, small1000 (by omega), acc ++ [.ref tp'], fun b o h => by rw [upd_ne (ne_of_none h hD2)]; exact s5 _ _ (sA b o h), upd_same, ?_⟩
            rw [ln, if_pos (by rw [ins, decide_eq_true ne']; rfl), List.length_append, la]; rfl
          · have ne' : e'.1 = e.1 := Decidable.byContradiction fun z => ne (by rw [decide_eq_false z]; rfl)
            rw [ln, if_neg (by rw [ne']; simp), la]; rfl
        · rw [ln, if_neg (by rw [Bool.eq_false_iff.mpr ins]; simp), la]; rfl
      · rintro HA ⟨acc, sA, eA, la⟩
        rw [List.take_of_length_le (by rw [lzs]; exact Nat.le_refl _)] at la
        have e1A := (s2.trans sA) _ _ e1
        have posf : 0 < fs.length := by have := (List.getElem?_eq_some_iff.mp ee).1; omega
        refine ⟨_, rfl, _, acc.length, rfl, .inl ⟨_, SqL.of eA, rfl⟩, _, rfl, _, zs.length, rfl, .inl ⟨_, SqL.of e1A, rfl⟩, _, _, rfl, rfl, rfl, _, rfl, ?_⟩
        refine ite2 (fun eq => ?_) (fun eq => ⟨s2.trans sA, fun i' hi' e' ee' => ?_, _, _, rfl⟩)
        · have eq' : ((acc.length : Nat) : Int) = ((zs.length : Nat) : Int) - 1 := V.int.inj (of_decide_eq_true eq)
          have hit : decide ((lessE fs e).length + 1 = fs.length) = true := decide_eq_true (by omega)
          have fin : speaksX man es c = some e.2 := by
            rw [sx]
            unfold topE
            rw [find_nth ee hit no]; rfl
          have := k HA (s1.trans (s2.trans sA))
          rw [fin] at this
          exact ⟨_, rfl, tp, _, _, _, rfl, rfl, sqT (sA _ _ htp), at_of (j := 1) rfl rfl, this⟩
        · by_cases z : i' = i
          · subst z
            rw [ee] at ee'
            obtain rfl := Option.some.inj ee'
            exact decide_eq_false fun w => eq (decide_eq_true (by congr 1; omega))
          · exact no i' (by omega) e' ee'
    · rintro σ H2 ⟨s2, no, o4', o5, rfl⟩
      have fin : speaksX man es c = none := by
        rw [sx]
        unfold topE
        rw [find_no fun i e h => no i (by have := (List.getElem?_eq_some_iff.mp h).1; omega) e h]; rfl
      have := k H2 (s1.trans s2)
      rw [fin] at this
      exact this
end
end Xci

namespace Xci
open PySem PySem.Spec PyProof.Rows L2
/-! all books of plain lots, all orders of a book -/
def booksOf (cs : List (List Int)) (zs : List Str) : List (List Ent) := zs.foldl (fun acc z => acc.flatMap fun b => cs.map fun m => b ++ [(m, z)]) [[]]
theorem books_snoc (cs : List (List Int)) (zs : List Str) (z : Str) : booksOf cs (zs ++ [z]) = (booksOf cs zs).flatMap fun b => cs.map fun m => b ++ [(m, z)] := by
  unfold booksOf
  rw [List.foldl_append]
  rfl
theorem books_mem {cs : List (List Int)} {zs : List Str} : ∀ {b : List Ent}, b ∈ booksOf cs zs → IsBook zs cs b := by
  refine snoc_ind (M := fun zs => ∀ {b : List Ent}, b ∈ booksOf cs zs → IsBook zs cs b) (fun {b} h => ?_) (fun l x ih {b} h => ?_) zs
  · have : b = [] := by simpa [booksOf] using h
    subst this
    exact ⟨rfl, nofun⟩
  · rw [books_snoc] at h
    obtain ⟨b0, h0, h⟩ := List.mem_flatMap.mp h
    obtain ⟨m, hm, rfl⟩ := List.mem_map.mp h
    have i0 := ih h0
    refine ⟨by rw [List.map_append, i0.1]; rfl, fun e he => ?_⟩
    rcases List.mem_append.mp he with q | q
    · exact i0.2 e q
    · rw [List.mem_singleton.mp q]; exact hm
theorem mem_books {cs : List (List Int)} {zs : List Str} : ∀ {b : List Ent}, IsBook zs cs b → b ∈ booksOf cs zs := by
  refine snoc_ind (M := fun zs => ∀ {b : List Ent}, IsBook zs cs b → b ∈ booksOf cs zs) (fun {b} h => ?_) (fun l x ih {b} h => ?_) zs
  · have : b = [] := List.map_eq_nil_iff.mp h.1
    subst this
    exact List.mem_singleton.mpr rfl
  · obtain ⟨b0, b1, rfl, e0, e1⟩ := List.map_eq_append_iff.mp h.1
    obtain ⟨e, rfl⟩ : ∃ e, b1 = [e] := by
      cases b1 with
      | nil => cases e1
      | cons e r =>
        cases r with
        | nil => exact ⟨e, rfl⟩
        | cons _ _ => cases e1
    have ez : e.2 = x := by injection e1
    rw [books_snoc]
    refine List.mem_flatMap.mpr ⟨b0, ih ⟨e0, fun y hy => h.2 y (List.mem_append_left _ hy)⟩, List.mem_map.mpr ⟨e.1, h.2 e (List.mem_append_right _ List.mem_cons_self), ?_⟩⟩
    rw [← ez]
theorem flat_len {α β : Type} {f : α → List β} {k : Nat} : ∀ {l : List α}, (∀ a ∈ l, (f a).length ≤ k) → (l.flatMap f).length ≤ l.length * k
  | [], _ => by simp
  | a :: r, h => by
    have := flat_len (l := r) fun x hx => h x (List.mem_cons_of_mem _ hx)
    have := h a List.mem_cons_self
    rw [List.flatMap_cons, List.length_append, List.length_cons, Nat.succ_mul]
    omega
theorem books_len {cs : List (List Int)} (c4 : cs.length ≤ 4) (zs : List Str) : (booksOf cs zs).length ≤ 4 ^ zs.length := by
  refine snoc_ind (M := fun zs : List Str => (booksOf cs zs).length ≤ 4 ^ zs.length) (Nat.le_refl 1) (fun l x ih => ?_) zs
  rw [books_snoc, List.length_append, List.length_singleton, Nat.pow_succ]
  exact Nat.le_trans (flat_len (k := 4) fun a _ => by rw [List.length_map]; exact c4) (Nat.mul_le_mul_right 4 ih)
def ordersOf (es : List Ent) : Nat → List (List Ent)
  | 0 => [[]]
  | n + 1 => (ordersOf es n).flatMap fun row => (es.filter fun e => !decide (e ∈ row)).map fun e => row ++ [e]
theorem orders_mem {es : List Ent} : ∀ {n : Nat} {row : List Ent}, row ∈ ordersOf es n → row.Nodup ∧ row.length = n ∧ ∀ e ∈ row, e ∈ es
  | 0, row, h => by
    have : row = [] := List.mem_singleton.mp h
    subst this
    exact ⟨List.nodup_nil, rfl, nofun⟩
  | n + 1, row, h => by
    obtain ⟨r0, h0, h⟩ := List.mem_flatMap.mp h
    obtain ⟨e, he, rfl⟩ := List.mem_map.mp h
    obtain ⟨he, nr⟩ := List.mem_filter.mp he
    obtain ⟨nd, l, sub⟩ := orders_mem h0
    have ne : e ∉ r0 := by simpa using nr
    refine ⟨List.nodup_append.mpr ⟨nd, List.pairwise_singleton .., fun a ha b hb q => ne (by rw [← List.mem_singleton.mp hb, ← q]; exact ha)⟩, by rw [List.length_append, l]; rfl, fun x hx => ?_⟩
    rcases List.mem_append.mp hx with q | q
    · exact sub x q
    · rw [List.mem_singleton.mp q]; exact he
theorem mem_orders {es : List Ent} : ∀ {n : Nat} {row : List Ent}, row.Nodup → row.length = n → (∀ e ∈ row, e ∈ es) → row ∈ ordersOf es n
  | 0, row, _, l, _ => by
    rw [List.length_eq_zero_iff.mp l]; exact List.mem_singleton.mpr rfl
  | n + 1, row, nd, l, sub => by
    have ne : row ≠ [] := fun z => by rw [z] at l; cases l
    have e := List.dropLast_concat_getLast ne
    generalize hr : row.dropLast = r0 at e
    generalize hx : row.getLast ne = x at e
    subst e
    obtain ⟨n1, _, dj⟩ := List.nodup_append.mp nd
    rw [List.length_append, List.length_singleton] at l
    refine List.mem_flatMap.mpr ⟨r0, mem_orders n1 (by omega) fun y hy => sub y (List.mem_append_left _ hy), List.mem_map.mpr ⟨x, List.mem_filter.mpr ⟨sub x (List.mem_append_right _ List.mem_cons_self), ?_⟩, rfl⟩⟩
    have : x ∉ r0 := fun h => dj x h x List.mem_cons_self rfl
    simpa using this
theorem orders_len {es : List Ent} (h : es.length ≤ 3) : ∀ n : Nat, (ordersOf es n).length ≤ 3 ^ n
  | 0 => Nat.le_refl 1
  | n + 1 => by
    rw [Nat.pow_succ]
    exact Nat.le_trans (flat_len (k := 3) fun a _ => by rw [List.length_map]; exact Nat.le_trans (List.length_filter_le _ _) h) (Nat.mul_le_mul_right 3 (orders_len h n))
/-! as values -/
def BkV (H : Hp) (v : V) (b : List Ent) : Prop := ∃ (p : Addr) (ws : List V), v = .ref p ∧ H p = some (.tup ws) ∧ Ents H ws b
theorem BkV.keep {H H' : Hp} {v : V} {b : List Ent} (f : TFr H H') (h : BkV H v b) : BkV H' v b := by
  obtain ⟨p, ws, a, e, c⟩ := h
  exact ⟨p, ws, a, f _ _ e, Ents.keep f c⟩
abbrev Bks (H : Hp) (vs : List V) (bs : List (List Ent)) : Prop := Paired (fun v b => BkV H v b) vs bs
theorem Bks.keep {H H' : Hp} {vs : List V} {bs : List (List Ent)} (f : TFr H H') (t : Bks H vs bs) : Bks H' vs bs := Paired.mapP t fun _ _ h => BkV.keep f h
def enD (e : Ent) : PyData := .tuple [mkD e.1, .str e.2]
theorem dp_en {K : PySem.W.Frag} {H : Hp} {v : V} {e : Ent} (h : EntV H v e) : Dp K H v (enD e) := by
  obtain ⟨u, ⟨p, rfl, hp⟩, mu⟩ := h
  exact .tup (sqT hp) (.cons (dp_mk mu) (.cons (.str _) .nil))
theorem dp_ens {K : PySem.W.Frag} {H : Hp} : ∀ {vs : List V} {es : List Ent}, Ents H vs es → DpAll K H vs (es.map enD)
  | _, _, .nil => .nil
  | _, _, .cons h t => .cons (dp_en h) (dp_ens t)
theorem lay_en {e : Ent} (h : PyData.strOk e.2 = true) : PyData.canLay0 (enD e) = true := by
  simp [enD, PyData.canLay0, PyData.canLayAll0, lay_mk, h]
theorem deep_en (e : Ent) : PyData.depth (enD e) ≤ 3 := by
  simp [enD, PyData.depth, PyData.depthAll, deep_mk]
theorem lay_ens : ∀ {es : List Ent}, (∀ e ∈ es, PyData.strOk e.2 = true) → PyData.canLayAll0 (es.map enD) = true
  | [], _ => rfl
  | e :: r, h => by
    rw [List.map_cons, PyData.canLayAll0, lay_en (h e List.mem_cons_self), lay_ens fun x hx => h x (List.mem_cons_of_mem _ hx)]; rfl
theorem eqv_en (a b : Ent) : PyData.eqv (enD a) (enD b) = decide (a = b) := by
  have e1 : PyData.eqv (mkD a.1) (mkD b.1) = decide (a.1 = b.1) := by unfold mkD; simp only [PyData.eqv]; exact eqvAll_ints _ _
  have : PyData.eqv (enD a) (enD b) = (decide (a.1 = b.1) && decide (a.2 = b.2)) := by
    unfold enD
    simp [PyData.eqv, PyData.eqvAll, e1]
    try (rw [Bool.eq_iff_iff]; simp)
  rw [this, Bool.eq_iff_iff]
  simp only [Bool.and_eq_true, decide_eq_true_eq]
  exact ⟨fun ⟨p, q⟩ => Prod.ext p q, fun e => by rw [e]; exact ⟨rfl, rfl⟩⟩
theorem any_en (e : Ent) : ∀ es : List Ent, ((es.map enD).any fun z => PyData.eqv z (enD e)) = decide (e ∈ es)
  | [] => rfl
  | x :: r => by
    rw [List.map_cons, List.any_cons, any_en e r, eqv_en, Bool.eq_iff_iff]
    simp only [Bool.or_eq_true, decide_eq_true_eq, List.mem_cons]
    exact ⟨fun h => h.imp Eq.symm id, fun h => h.imp Eq.symm id⟩
def rNotInEn (K : PySem.W.Frag) : R2 := fun x y H Q => ∃ (p : Addr) (ys : List V) (es : List Ent) (e : Ent), EntV H x e ∧ y = .ref p ∧ SqT K H p ys ∧ Ents H ys es ∧ (∀ o ∈ es, PyData.strOk o.2 = true) ∧ PyData.strOk e.2 = true ∧ Q (.bl (!decide (e ∈ es))) H
theorem op_notInEn {X : Cx} (hu : X.A.units + 64 < cLine) : OpR X (compareOp .NotIn) (rNotInEn X.K) := by
  intro pins s σ H x y v u Q I rx ry h
  obtain ⟨p, ys, es, e, hm, rfl, hs, hes, o1, o2, q⟩ := h
  obtain ⟨as, r1⟩ := Dp.reads I _ x v (dp_en hm) rx
  obtain ⟨bs, r2⟩ := Dp.reads I (.tuple (es.map enD)) _ u (.tup hs (dp_ens hes)) ry
  refine PySem.SeqAt.notIn_tuple_reads r2 r1 (lay_ens o1) (lay_en o2) (by have := deep_en e; have : min (PyData.depthAll (es.map enD)) (PyData.depth (enD e)) ≤ 3 := Nat.le_trans (Nat.min_le_right _ _) this; omega) ?_
  rw [any_en]
  exact ⟨.bl _, H, I, rfl, q⟩
def spBooks : Sp := fun vs H Q _ => ∃ (pn pe : Addr) (zs : List Str) (ys : List V) (cs : List (List Int)), vs = [.ref pn, .ref pe] ∧ H pn = some (.lst (zs.map V.str)) ∧ H pe = some (.lst ys) ∧ Mks H ys cs ∧ zs.length ≤ 3 ∧ cs.length ≤ 4 ∧
  ∀ (q : Addr) (xs : List V) (H' : Hp), H' q = some (.lst xs) → Bks H' xs (booksOf cs zs) → Same H H' → Q (.ref q) H'
def spOrders : Sp := fun vs H Q _ => ∃ (p : Addr) (ws : List V) (es : List Ent), vs = [.ref p] ∧ H p = some (.tup ws) ∧ Ents H ws es ∧ es.length ≤ 3 ∧ (∀ e ∈ es, PyData.strOk e.2 = true) ∧
  ∀ (q : Addr) (xs : List V) (H' : Hp), H' q = some (.lst xs) → Bks H' xs (ordersOf es es.length) → Same H H' → Q (.ref q) H'
section
variable {P : Program} {w : World} {K : PySem.W.Frag} {mg : Str → Option Value} {base : Heap}
abbrev sLawBooks : Stmt := top 57
theorem scLawBooks : FnScope ["names", "every", "found", "name", "later", "book", "marks"] ["names", "every"] (defScope sLawBooks) := ⟨rfl, rfl, rfl, by decide +kernel, rfl, by decide +kernel, by decide +kernel⟩
set_option maxHeartbeats 8000000 in
theorem ok_lawBooks {f : Addr} {fd : FuncData} (F : Fun K "_law_books" "_law_books" sLawBooks f fd) : FnOk P w K mg base CX0 1 f fd ["names", "every"] spBooks := by
  refine F.ok scLawBooks (fun vs H Q E h => ?_) (fun cdv A outer s H vs Q E hr h => ?_)
  · obtain ⟨pn, pe, zs, ys, cs, rfl, _⟩ := h
    rfl
  · obtain ⟨pn, pe, zs, ys, cs, rfl, hn, he, mk, z3, c4, k⟩ := h
    refine ⟨_, (pss_cons (ps_set (i := 2) scLawBooks.nd rfl (by first | exact Or.inl rfl | exact Or.inr rfl) (pe_lst (pa_cons (pe_tup pa_nil) pa_nil)))
      (pss_cons (ps_for PassesOwn.never rfl (pi_list (pv 0)) (pg_name (i := 3) scLawBooks.nd rfl (by first | exact Or.inl rfl | exact Or.inr rfl)) (pss_cons (ps_set (i := 4) scLawBooks.nd rfl (by first | exact Or.inl rfl | exact Or.inr rfl) (pe_lst pa_nil))
      (pss_cons (ps_for PassesOwn.never rfl (pi_list (pv 2)) (pg_name (i := 5) scLawBooks.nd rfl (by first | exact Or.inl rfl | exact Or.inr rfl)) (pss_one (ps_expr (pe_bm PySem.F.plainAttrs_list PySem.F.slot_list_extend PySem.F.type_list_extend mt_extend (pv 4) (pa_cons (pe_lc (own := [("marks", 6)]) rfl scLawBooks.nd (pi_list (pv 1)) (blkOk_by (N := ["names", "every", "found", "name", "later", "book", "marks"]) (sc := defScope sLawBooks) (by decide +kernel)) (fun _ _ _ _ _ => (pg_name (i := 6) scLawBooks.nd rfl (by first | exact Or.inl rfl | exact Or.inr rfl))) (fun _ _ _ _ _ => pts_nil) (fun _ _ _ _ _ => (pe_op (show OpR _ _ (rCatA K) from op_catA) (pv 5) (pe_tup (pa_cons (pe_tup (pa_cons (pv 6) (pa_cons (pv 3) pa_nil))) pa_nil))))) pa_nil)))))
      (pss_one (ps_set (i := 2) scLawBooks.nd rfl (by first | exact Or.inl rfl | exact Or.inr rfl) (pv 4))))))
      (pss_one (ps_ret (pv 2))))), ?_⟩
    refine ⟨by show 0 ≤ sizeLine; decide, fun e0 he0 => ⟨by show 1 ≤ sizeLine; decide, fun q0 hq0 => ?_⟩⟩
    have sA : Same H (upd (upd H e0 (.tup [])) q0 (.lst [.ref e0])) := (Same.new he0).trans (Same.new hq0)
    refine ⟨_, rfl, pn, rfl, ⟨_, SqL.of (sA _ _ hn)⟩, ?_⟩
    refine for_list (K := K) (a := pn) (xs := zs.map V.str) (fun i σ H2 => ∃ (q : Addr) (xs : List V) (o3 o4 o5 o6 : Option V), Same H H2 ∧ H2 q = some (.lst xs) ∧ Bks H2 xs (booksOf cs (zs.take i)) ∧ σ = [some (.ref pn), some (.ref pe), some (.ref q), o3, o4, o5, o6])
      ⟨q0, _, none, none, none, none, sA, upd_same, .cons ⟨e0, [], rfl, (Same.new hq0) _ _ upd_same, .nil⟩ .nil, rfl⟩ (fun i σ H2 _ ⟨_, _, _, _, _, _, e, _⟩ => SqL.of (e _ _ hn)) ?_ ?_
    · rintro i u σ H2 hi ⟨q, xs, o3, o4, o5, o6, s2, e2, bk, rfl⟩
      rw [List.getElem?_map] at hi
      obtain ⟨z, hz, rfl⟩ := Option.map_eq_some_iff.mp hi
      have li := (List.getElem?_eq_some_iff.mp hz).1
      have lx := Paired.length bk
      have b16 : (booksOf cs (zs.take i)).length ≤ 16 := Nat.le_trans (books_len c4 _) (by
        rw [List.length_take]
        exact Nat.pow_le_pow_right (n := 4) (by decide) (show min i zs.length ≤ 2 by omega))
      have take1 : zs.take (i + 1) = zs.take i ++ [z] := by rw [List.take_add_one, hz]; rfl
      refine ⟨by show 0 ≤ sizeLine; decide, fun l hl => ?_⟩
      have sl : Same H2 (upd H2 l (.lst [])) := Same.new hl
      refine ⟨_, rfl, q, rfl, ⟨_, SqL.of (sl _ _ e2)⟩, ?_⟩
      refine for_list (K := K) (a := q) (xs := xs) (fun j σ H3 => ∃ (as : List V) (o5 o6 : Option V), Same H2 H3 ∧ H3 l = some (.lst as) ∧ Bks H3 as (((booksOf cs (zs.take i)).take j).flatMap fun b => cs.map fun m => b ++ [(m, z)]) ∧ σ = [some (.ref pn), some (.ref pe), some (.ref q), some (.str z), some (.ref l), o5, o6])
        ⟨[], o5, o6, sl, upd_same, .nil, rfl⟩ (fun j σ H3 _ ⟨_, _, _, e, _⟩ => SqL.of (e _ _ e2)) ?_ ?_
      · rintro j x σ H3 hj ⟨as, o5, o6, s3, e3, bk3, rfl⟩
        obtain ⟨b, eb, p, ws, rfl, hp, enb⟩ := Paired.get (bk.keep (TFr.same s3)) hj
        have lj := (List.getElem?_eq_some_iff.mp eb).1
        have lb : b.length ≤ 3 := by
          have := congrArg List.length (books_mem (List.mem_of_getElem? eb)).1
          rw [List.length_map, List.length_take] at this
          omega
        have lws := Paired.length enb
        refine ⟨_, rfl, .inl ⟨rfl, _, SqL.of e3⟩, _, rfl, pe, rfl, ⟨_, SqL.of ((s2.trans s3) _ _ he)⟩, fun D hD => ?_⟩
        refine lc_list (K := K) (a := pe) (xs := ys) (fun m H4 => ∃ cs' : List V, Same H3 H4 ∧ H4 D = some (.lst cs') ∧ Bks H4 cs' ((cs.take m).map fun c => b ++ [(c, z)])) ⟨[], Same.new hD, upd_same, .nil⟩ (fun m H4 _ ⟨_, e, _⟩ => SqL.of (((s2.trans s3).trans e) _ _ he)) ?_ ?_
        · rintro m v H4 hm ⟨cs', s4, e4, bk4⟩
          obtain ⟨c, ec, mc⟩ := Paired.get (mk.keep (TFr.same ((s2.trans s3).trans s4))) hm
          have lc := Paired.length bk4
          rw [List.length_map, List.length_take] at lc
          refine ⟨rfl, _, rfl, _, rfl, _, rfl, by show 2 ≤ sizeLine; decide, fun t1 h1 => ⟨by show 1 ≤ sizeLine; decide, fun t2 h2 => ?_⟩⟩
          have sx : Same H4 (upd (upd H4 t1 (.tup [v, .str z])) t2 (.tup [.ref t1])) := (Same.new h1).trans (Same.new h2)
          have e1 : (upd (upd H4 t1 (.tup [v, .str z])) t2 (.tup [.ref t1])) t1 = some (.tup [v, .str z]) := (Same.new h2) _ _ upd_same
          refine cat_of (ys := [.ref t1]) (sx _ _ (s4 _ _ hp)) upd_same (Nat.le_of_lt (small1000 (by rw [List.length_singleton]; omega))) fun t H5 et s5 => ?_
          have s45 := sx.trans s5
          refine ⟨cs', s45 _ _ e4, small1000 (by omega), cs' ++ [.ref t], fun b o h => by rw [upd_ne (ne_of_none h hD)]; exact s45 _ _ (s4 b o h), upd_same, ?_⟩
          rw [List.take_add_one, ec, List.map_append]
          have tf : TFr H5 (upd H5 D (.lst (cs' ++ [.ref t]))) := TFr.lst (s45 _ _ e4)
          refine Paired.app (Bks.keep tf (bk4.keep (TFr.same s45))) (Paired.one (BkV.keep tf ⟨t, _, rfl, et, ?_⟩))
          exact Paired.app (Ents.keep (TFr.same (s4.trans s45)) enb) (Paired.one ⟨v, ⟨t1, rfl, s5 _ _ e1⟩, Tup.keep (TFr.same s45) mc⟩)
        · rintro H4 ⟨cs', s4, e4, bk4⟩
          rw [List.take_of_length_le (by rw [Paired.length mk]; exact Nat.le_refl _)] at bk4
          have la := Paired.length bk3
          have lc := Paired.length bk4
          rw [List.length_map] at lc
          have lf := flat_len (k := 4) (l := (booksOf cs (zs.take i)).take j) (f := fun b => cs.map fun m => b ++ [(m, z)]) fun a _ => by rw [List.length_map]; exact c4
          have l16 : ((booksOf cs (zs.take i)).take j).length ≤ 16 := Nat.le_trans (List.length_take_le' _ _) b16
          have l80 : as.length + cs'.length ≤ 80 := by
            rw [la, lc]
            exact Nat.le_trans (Nat.add_le_add lf c4) (by omega)
          refine ⟨l, D, as, cs', rfl, rfl, s4 _ _ e3, e4, Nat.le_of_lt (small1000 (Nat.le_trans l80 (by decide))), as ++ cs', _, _, fun b o h => by rw [upd_ne (ne_of_none h hl)]; exact s4 _ _ (s3 b o h), upd_same, ?_, rfl⟩
          have tf : TFr H4 (upd H4 l (.lst (as ++ cs'))) := TFr.lst (s4 _ _ e3)
          rw [List.take_add_one, eb, List.flatMap_append]
          refine Paired.app (Bks.keep tf (bk3.keep (TFr.same s4))) ?_
          have e5 : ((some b).toList.flatMap fun b => cs.map fun m => b ++ [(m, z)]) = cs.map fun m => b ++ [(m, z)] := by simp
          rw [e5]
          exact Bks.keep tf bk4
      · rintro σ H3 ⟨as, o5, o6, s3, e3, bk3, rfl⟩
        rw [List.take_of_length_le (by rw [lx]; exact Nat.le_refl _), ← books_snoc, ← take1] at bk3
        exact ⟨_, rfl, l, as, _, _, _, _, s2.trans s3, e3, bk3, rfl⟩
    · rintro σ H2 ⟨q, xs, o3, o4, o5, o6, s2, e2, bk, rfl⟩
      rw [List.length_map, List.take_length] at bk
      exact ⟨_, rfl, k q xs H2 e2 bk s2⟩
abbrev sLawOrders : Stmt := top 58
theorem scLawOrders : FnScope ["entries", "found", "turn", "later", "row", "entry"] ["entries"] (defScope sLawOrders) := ⟨rfl, rfl, rfl, by decide +kernel, rfl, by decide +kernel, by decide +kernel⟩
set_option maxHeartbeats 8000000 in
theorem ok_lawOrders {f : Addr} {fd : FuncData} (F : Fun K "_law_orders" "_law_orders" sLawOrders f fd) (T : Txt mg) : FnOk P w K mg base CX0 1 f fd ["entries"] spOrders := by
  refine F.ok scLawOrders (fun vs H Q E h => ?_) (fun cdv A outer s H vs Q E hr h => ?_)
  · obtain ⟨p, ws, es, rfl, _⟩ := h
    rfl
  · obtain ⟨p, ws, es, rfl, hp, en, e3, sok, k⟩ := h
    refine ⟨_, (pss_cons (ps_set (i := 1) scLawOrders.nd rfl (by first | exact Or.inl rfl | exact Or.inr rfl) (pe_lst (pa_cons (pe_tup pa_nil) pa_nil)))
      (pss_cons (ps_for PassesOwn.never rfl (pi_range1 rfl T.range (pa_cons (pe_callB call_len rfl T.len PySem.boot_len (pa_cons (pv 0) pa_nil)) pa_nil)) (pg_name (i := 2) scLawOrders.nd rfl (by first | exact Or.inl rfl | exact Or.inr rfl)) (pss_cons (ps_set (i := 3) scLawOrders.nd rfl (by first | exact Or.inl rfl | exact Or.inr rfl) (pe_lst pa_nil))
      (pss_cons (ps_for PassesOwn.never rfl (pi_list (pv 1)) (pg_name (i := 4) scLawOrders.nd rfl (by first | exact Or.inl rfl | exact Or.inr rfl)) (pss_one (ps_expr (pe_bm PySem.F.plainAttrs_list PySem.F.slot_list_extend PySem.F.type_list_extend mt_extend (pv 3) (pa_cons (pe_lc (own := [("entry", 5)]) rfl scLawOrders.nd (pi_tup (pv 0)) (blkOk_by (N := ["entries", "found", "turn", "later", "row", "entry"]) (sc := defScope sLawOrders) (by decide +kernel)) (fun _ _ _ _ _ => (pg_name (i := 5) scLawOrders.nd rfl (by first | exact Or.inl rfl | exact Or.inr rfl))) (fun _ _ _ _ _ => pts_one (pt_cmpR (show OpR _ _ (rNotInEn K) from op_notInEn (hu64 hr)) (pv 5) (pv 4) (by with_unfolding_all rfl))) (fun _ _ _ _ _ => (pe_op (show OpR _ _ (rCatA K) from op_catA) (pv 4) (pe_tup (pa_cons (pv 5) pa_nil))))) pa_nil)))))
      (pss_one (ps_set (i := 1) scLawOrders.nd rfl (by first | exact Or.inl rfl | exact Or.inr rfl) (pv 3))))))
      (pss_one (ps_ret (pv 1))))), ?_⟩
    have lws := Paired.length en
    refine ⟨by show 0 ≤ sizeLine; decide, fun e0 he0 => ⟨by show 1 ≤ sizeLine; decide, fun q0 hq0 => ?_⟩⟩
    have sA : Same H (upd (upd H e0 (.tup [])) q0 (.lst [.ref e0])) := (Same.new he0).trans (Same.new hq0)
    refine ⟨_, rfl, _, ws.length, rfl, .inr ⟨_, sqT (sA _ _ hp), rfl⟩, _, rfl, by omega, by omega, ?_⟩
    refine for_range (n := ws.length) (fun i σ H2 => ∃ (q : Addr) (xs : List V) (o2 o3 o4 o5 : Option V), Same H H2 ∧ H2 q = some (.lst xs) ∧ Bks H2 xs (ordersOf es i) ∧ σ = [some (.ref p), some (.ref q), o2, o3, o4, o5])
      ⟨q0, _, none, none, none, none, sA, upd_same, .cons ⟨e0, [], rfl, (Same.new hq0) _ _ upd_same, .nil⟩ .nil, rfl⟩ ?_ ?_
    · rintro i σ H2 hi ⟨q, xs, o2, o3, o4, o5, s2, e2, bk, rfl⟩
      have lx := Paired.length bk
      have b9 : (ordersOf es i).length ≤ 9 := Nat.le_trans (orders_len e3 _) (Nat.pow_le_pow_right (n := 3) (by decide) (show i ≤ 2 by omega))
      refine ⟨by show 0 ≤ sizeLine; decide, fun l hl => ?_⟩
      have sl : Same H2 (upd H2 l (.lst [])) := Same.new hl
      refine ⟨_, rfl, q, rfl, ⟨_, SqL.of (sl _ _ e2)⟩, ?_⟩
      refine for_list (K := K) (a := q) (xs := xs) (fun j σ H3 => ∃ (as : List V) (o4 o5 : Option V), Same H2 H3 ∧ H3 l = some (.lst as) ∧ Bks H3 as (((ordersOf es i).take j).flatMap fun row => (es.filter fun e => !decide (e ∈ row)).map fun e => row ++ [e]) ∧ σ = [some (.ref p), some (.ref q), some (.int (0 + (i : Nat))), some (.ref l), o4, o5])
        ⟨[], o4, o5, sl, upd_same, .nil, rfl⟩ (fun j σ H3 _ ⟨_, _, _, e, _⟩ => SqL.of (e _ _ e2)) ?_ ?_
      · rintro j x σ H3 hj ⟨as, o4, o5, s3, e3', bk3, rfl⟩
        obtain ⟨b, eb, pr, wr, rfl, hpr, enb⟩ := Paired.get (bk.keep (TFr.same s3)) hj
        obtain ⟨ndb, lb, subb⟩ := orders_mem (List.mem_of_getElem? eb)
        have lwr := Paired.length enb
        have hp3 := (s2.trans s3) _ _ hp
        refine ⟨_, rfl, .inl ⟨rfl, _, SqL.of e3'⟩, _, rfl, p, rfl, ⟨_, sqT hp3⟩, fun D hD => ?_⟩
        refine lc_tup (K := K) (a := p) (xs := ws) (fun m H4 => ∃ cs' : List V, Same H3 H4 ∧ H4 D = some (.lst cs') ∧ Bks H4 cs' (((es.take m).filter fun e => !decide (e ∈ b)).map fun e => b ++ [e])) ⟨[], Same.new hD, upd_same, .nil⟩ (fun m H4 _ ⟨_, e, _⟩ => sqT (e _ _ hp3)) ?_ ?_
        · rintro m v H4 hm ⟨cs', s4, e4, bk4⟩
          have s04 := (s2.trans s3).trans s4
          obtain ⟨e, ee, ve⟩ := Paired.get (Ents.keep (TFr.same s04) en) hm
          have me := List.mem_of_getElem? ee
          have lc := Paired.length bk4
          rw [List.length_map] at lc
          have lf := List.length_filter_le (fun e => !decide (e ∈ b)) (es.take m)
          rw [List.length_take] at lf
          refine ⟨rfl, _, rfl, _, rfl, pr, wr, b, e, ve, rfl, sqT (s4 _ _ hpr), Ents.keep (TFr.same s4) enb, fun o ho => sok o (subb o ho), sok e me, _, rfl, ?_⟩
          have tk : ((es.take (m + 1)).filter fun e => !decide (e ∈ b)) = ((es.take m).filter fun e => !decide (e ∈ b)) ++ (if e ∈ b then [] else [e]) := by
            rw [List.take_add_one, ee, List.filter_append]
            by_cases z : e ∈ b
            · rw [if_pos z]; simp [z]
            · rw [if_neg z]; simp [z]
          refine ite2 (fun nin => ?_) (fun nin => ?_)
          · have ni : e ∉ b := by simpa using nin
            rw [if_neg ni] at tk
            refine ⟨_, rfl, _, rfl, by show 1 ≤ sizeLine; decide, fun t2 h2 => ?_⟩
            have sx : Same H4 (upd H4 t2 (.tup [v])) := Same.new h2
            refine cat_of (ys := [v]) (sx _ _ (s4 _ _ hpr)) upd_same (Nat.le_of_lt (small1000 (by rw [List.length_singleton]; omega))) fun t H5 et s5 => ?_
            have s45 := sx.trans s5
            refine ⟨cs', s45 _ _ e4, small1000 (by omega), cs' ++ [.ref t], fun b o h => by rw [upd_ne (ne_of_none h hD)]; exact s45 _ _ (s4 b o h), upd_same, ?_⟩
            rw [tk, List.map_append]
            have tf : TFr H5 (upd H5 D (.lst (cs' ++ [.ref t]))) := TFr.lst (s45 _ _ e4)
            refine Paired.app (Bks.keep tf (bk4.keep (TFr.same s45))) (Paired.one (BkV.keep tf ⟨t, _, rfl, et, ?_⟩))
            exact Paired.app (Ents.keep (TFr.same (s4.trans s45)) enb) (Paired.one (EntV.keep (TFr.same s45) ve))
          · have ni : e ∈ b := by simpa using nin
            rw [if_pos ni, List.append_nil] at tk
            refine ⟨cs', s4, e4, ?_⟩
            rw [tk]
            exact bk4
        · rintro H4 ⟨cs', s4, e4, bk4⟩
          rw [List.take_of_length_le (by rw [lws]; exact Nat.le_refl _)] at bk4
          have la := Paired.length bk3
          have lc := Paired.length bk4
          rw [List.length_map] at lc
          have lf0 := List.length_filter_le (fun e => !decide (e ∈ b)) es
          have lf := flat_len (k := 3) (l := (ordersOf es i).take j) (f := fun row => (es.filter fun e => !decide (e ∈ row)).map fun e => row ++ [e]) fun a _ => by rw [List.length_map]; exact Nat.le_trans (List.length_filter_le _ _) e3
          have l9 : ((ordersOf es i).take j).length ≤ 9 := Nat.le_trans (List.length_take_le' _ _) b9
          have l80 : as.length + cs'.length ≤ 80 := by
            rw [la, lc]
            exact Nat.le_trans (Nat.add_le_add lf (Nat.le_trans lf0 e3)) (by omega)
          refine ⟨l, D, as, cs', rfl, rfl, s4 _ _ e3', e4, Nat.le_of_lt (small1000 (Nat.le_trans l80 (by decide))), as ++ cs', _, _, fun b o h => by rw [upd_ne (ne_of_none h hl)]; exact s4 _ _ (s3 b o h), upd_same, ?_, rfl⟩
          have tf : TFr H4 (upd H4 l (.lst (as ++ cs'))) := TFr.lst (s4 _ _ e3')
          rw [List.take_add_one, eb, List.flatMap_append]
          refine Paired.app (Bks.keep tf (bk3.keep (TFr.same s4))) ?_
          have e5 : ((some b).toList.flatMap fun row => (es.filter fun e => !decide (e ∈ row)).map fun e => row ++ [e]) = (es.filter fun e => !decide (e ∈ b)).map fun e => b ++ [e] := by simp
          rw [e5]
          exact Bks.keep tf bk4
      · rintro σ H3 ⟨as, o4, o5, s3, e3', bk3, rfl⟩
        rw [List.take_of_length_le (by rw [lx]; exact Nat.le_refl _)] at bk3
        exact ⟨_, rfl, l, as, _, _, _, _, s2.trans s3, e3', bk3, rfl⟩
    · rintro σ H2 ⟨q, xs, o2, o3, o4, o5, s2, e2, bk, rfl⟩
      rw [lws] at bk
      exact ⟨_, rfl, k q xs H2 e2 bk s2⟩
end
end Xci

namespace Xci
open PySem L2
/-- the orders of a book that are tried -/
def rowsB (man : Str) (b : List Ent) : List (List Ent) := if man = "row" then ordersOf b b.length else [b]
theorem rowsB_in {man : Str} {b row : List Ent} (nd : b.Nodup) (h : row ∈ rowsB man b) : IsOrder b row := by
  unfold rowsB at h
  by_cases e : man = "row"
  · rw [if_pos e] at h
    obtain ⟨a, l, s⟩ := orders_mem h
    exact ⟨a, l, s⟩
  · rw [if_neg e] at h
    rw [List.mem_singleton.mp h]
    exact ⟨nd, rfl, fun _ h => h⟩
theorem made_some {man : Str} {rows : List (List Int × Str)} {F : List Str} {n : Int} {cs : List (List Int)} (hm : Man2 man) (N : Names rows F) (cl : ∀ r ∈ rows, ∀ m ∈ r.1, m ∈ rng n) (perm : cs.Perm (lots (rng n))) :
    madeB man rows = true ↔ ∃ b ∈ booksOf cs F, ∃ row ∈ rowsB man b, Speaks man rows row := by
  have ev : ∀ l, l ∈ lots (rng n) → l ∈ cs := fun l h => perm.mem_iff.mpr h
  have asc : ∀ l ∈ cs, l.Pairwise (· < ·) := fun l h => (rng_ok n).up.sublist (lots_sub (perm.mem_iff.mp h))
  constructor
  · intro h
    rcases hm with rfl | rfl
    · obtain ⟨b, row, ib, io, sp⟩ := row_of_made N cl h ev
      exact ⟨b, mem_books ib, row, by unfold rowsB; rw [if_pos rfl]; exact mem_orders io.1 io.2.1 io.2.2, sp⟩
    · obtain ⟨b, ib, sp⟩ := within_of_made N cl h ev
      exact ⟨b, mem_books ib, b, by unfold rowsB; rw [if_neg (by decide +kernel)]; exact List.mem_singleton.mpr rfl, sp⟩
  · rintro ⟨b, hb, row, hr, sp⟩
    have ib := books_mem hb
    have nb : b.Nodup := nodup_snd (by rw [ib.1]; exact N.nd)
    have io := rowsB_in nb hr
    rcases hm with rfl | rfl
    · exact made_of_row N ib io sp
    · unfold rowsB at hr
      rw [if_neg (by decide +kernel)] at hr
      rw [List.mem_singleton.mp hr] at sp
      exact made_of_within N asc ib sp
def spSomeBook : Sp := fun vs H Q _ => ∃ (many : Int) (pc pf : Addr) (cy : List V) (cells : List (List Int)) (fs : List (Option Str)) (zs : List Str) (man : Str), vs = [.int many, .ref pc, .ref pf, .str man] ∧ H pc = some (.tup cy) ∧ Mks H cy cells ∧ H pf = some (.tup (fs.map formV)) ∧ fs.length = cells.length ∧ cells.length ≤ 24 ∧ 0 ≤ many ∧ many ≤ 2 ∧ (∀ c ∈ cells, MarksOk many c) ∧
  Rising fs zs ∧ zs.length ≤ 3 ∧ (∀ z ∈ zs, PyData.strOk z = true) ∧ Man2 man ∧ ∀ H', Same H H' → Q (.bl (madeB man (rowsOf cells fs))) H'
section
variable {P : Program} {w : World} {K : PySem.W.Frag} {mg : Str → Option Value} {base : Heap}
abbrev sLawSomeBook : Stmt := top 59
theorem scLawSomeBook : FnScope ["many", "cells", "forms", "manner", "entries", "row", "told", "cell", "at"] ["many", "cells", "forms", "manner"] (defScope sLawSomeBook) := ⟨rfl, rfl, rfl, by decide +kernel, rfl, by decide +kernel, by decide +kernel⟩
set_option maxHeartbeats 8000000 in
theorem ok_lawSomeBook {f : Addr} {fd : FuncData} (F : Fun K "_law_some_book" "_law_some_book" sLawSomeBook f fd) (T : Txt mg) (HLp : Has P w K mg base "_law_spoken" ["forms"] 1 spLawSpoken) (HL : Has P w K mg base "_law_all_cells" ["many"] 1 spAllCells) (HBk : Has P w K mg base "_law_books" ["names", "every"] 1 spBooks) (HOd : Has P w K mg base "_law_orders" ["entries"] 1 spOrders) (HSx : Has P w K mg base "_law_speaks" ["manner", "entries", "cell"] 2 spSpeaksT) : FnOk P w K mg base CX0 3 f fd ["many", "cells", "forms", "manner"] spSomeBook := by
  refine F.ok scLawSomeBook (fun vs H Q E h => ?_) (fun cdv A outer s H vs Q E hr h => ?_)
  · obtain ⟨many, pc, pf, cy, cells, fs, zs, man, rfl, _⟩ := h
    rfl
  · obtain ⟨many, pc, pf, cy, cells, fs, zs, man, rfl, hc, mc, hf, lfs, c24, m0, m2, mok, ris, z3, sok, hm, k⟩ := h
    refine ⟨_, (pss_cons (ps_for PassesOwn.never rfl (pi_list (pe_callH HBk (hr.mono (by decide)) rfl (pa_cons (pe_callH HLp (hr.mono (by decide)) rfl (pa_cons (pv 2) pa_nil)) (pa_cons (pe_callH HL (hr.mono (by decide)) rfl (pa_cons (pv 0) pa_nil)) pa_nil)))) (pg_name (i := 4) scLawSomeBook.nd rfl (by first | exact Or.inl rfl | exact Or.inr rfl)) (pss_one (ps_for PassesOwn.never rfl (pi_list (pe_ifExp (pt_cmpR op_eq (pv 3) pe_str (nomark _)) (pe_callH HOd (hr.mono (by decide)) rfl (pa_cons (pv 4) pa_nil)) (pe_lst (pa_cons (pv 4) pa_nil)))) (pg_name (i := 5) scLawSomeBook.nd rfl (by first | exact Or.inl rfl | exact Or.inr rfl)) (pss_cons (ps_set (i := 6) scLawSomeBook.nd rfl (by first | exact Or.inl rfl | exact Or.inr rfl) (pe_lc (own := [("cell", 7)]) rfl scLawSomeBook.nd (pi_tup (pv 1)) (blkOk_by (N := ["many", "cells", "forms", "manner", "entries", "row", "told", "cell", "at"]) (sc := defScope sLawSomeBook) (by decide +kernel)) (fun _ _ _ _ _ => (pg_name (i := 7) scLawSomeBook.nd rfl (by first | exact Or.inl rfl | exact Or.inr rfl))) (fun _ _ _ _ _ => pts_nil) (fun _ _ _ _ _ => (pe_callH HSx (hr.mono (by decide)) rfl (pa_cons (pv 3) (pa_cons (pv 5) (pa_cons (pv 7) pa_nil)))))))
      (pss_one (ps_if (pt_cmpR op_eq (pe_callB call_len rfl T.len PySem.boot_len (pa_cons (pe_lc (own := [("at", 8)]) rfl scLawSomeBook.nd (pi_range1 rfl T.range (pa_cons (pe_callB call_len rfl T.len PySem.boot_len (pa_cons (pv 1) pa_nil)) pa_nil)) (blkOk_by (N := ["many", "cells", "forms", "manner", "entries", "row", "told", "cell", "at"]) (sc := defScope sLawSomeBook) (by decide +kernel)) (fun _ _ _ _ _ => (pg_name (i := 8) scLawSomeBook.nd rfl (by first | exact Or.inl rfl | exact Or.inr rfl))) (fun _ _ _ _ _ => pts_one (PW.pt (pw_and (pt_cmpR op_notN (pe_ix (show IxR _ (rIxT K) from ix_tup) (pv 2) (pv 8) (fun _ _ => rfl)) pe_non (nomark _)) (pw_and1 (pt_cmpR op_ne (pe_ix (show IxR _ (rIxL K) from ix_list) (pv 6) (pv 8) (fun _ _ => rfl)) (pe_ix (show IxR _ (rIxT K) from ix_tup) (pv 2) (pv 8) (fun _ _ => rfl)) (nomark _)))))) (fun _ _ _ _ _ => (pv 8))) pa_nil)) pe_int (nomark _)) (pss_one (ps_ret pe_bl)) pss_nil))))))
      (pss_one (ps_ret pe_bl))), ?_⟩
    have lcy := Paired.length mc
    have N : Names (rowsOf cells fs) zs := ⟨ris.nd, fun z => by
      rw [ris.all]
      constructor
      · intro h
        obtain ⟨i, hi⟩ := List.mem_iff_getElem?.mp h
        have lt := (List.getElem?_eq_some_iff.mp hi).1
        exact ⟨(cells[i]'(by omega), z), rows_mem.mpr ⟨i, List.getElem?_eq_getElem (by omega), hi⟩, rfl⟩
      · rintro ⟨r, hr, rfl⟩
        obtain ⟨i, _, h⟩ := rows_mem.mp hr
        exact List.mem_of_getElem? h⟩
    have clr : ∀ r ∈ rowsOf cells fs, ∀ m ∈ r.1, m ∈ rng many := fun r hr m hm' => by
      obtain ⟨i, h, _⟩ := rows_mem.mp hr
      have ok := mok r.1 (List.mem_of_getElem? h)
      have a := ok.lo m hm'
      have b := ok.hi m hm'
      exact List.mem_map.mpr ⟨m.toNat, List.mem_range.mpr (by omega), by omega⟩
    refine ⟨_, rfl, pf, fs, rfl, hf, by omega, fun qn zs' H1 ris' en _ s1 => ⟨_, rfl, many, rfl, m0, by omega, fun qe ys cs H2 eqe mk perm s2 _ => ?_⟩⟩
    have pz : zs'.Perm zs := (List.perm_ext_iff_of_nodup ris'.nd ris.nd).mpr fun z => by rw [ris'.all, ris.all]
    have N' : Names (rowsOf cells fs) zs' := ⟨ris'.nd, fun z => by rw [pz.mem_iff]; exact N.mem z⟩
    have c4 : cs.length ≤ 4 := by
      rw [perm.length_eq, lots_len, rng_len]
      exact Nat.le_trans (Nat.pow_le_pow_right (n := 2) (by decide) (show many.toNat ≤ 2 by omega)) (by decide)
    refine ⟨qn, qe, zs', ys, cs, rfl, s2 _ _ en, eqe, mk, by rw [pz.length_eq]; exact z3, c4, fun q xs H3 e3 bk s3 => ⟨q, rfl, ⟨_, SqL.of e3⟩, ?_⟩⟩
    have s03 := s1.trans (s2.trans s3)
    have lxs := Paired.length bk
    have mi := made_some hm N' clr perm
    generalize hrows : rowsOf cells fs = rows at *
    refine for_list (K := K) (a := q) (xs := xs) (fun i σ H4 => Same H3 H4 ∧ (∀ i' < i, ∀ b, (booksOf cs zs')[i']? = some b → ∀ row ∈ rowsB man b, ¬ Speaks man rows row) ∧ ∃ o4 o5 o6 o7 o8 : Option V, σ = [some (.int many), some (.ref pc), some (.ref pf), some (.str man), o4, o5, o6, o7, o8])
      ⟨Same.refl _, fun i hi => absurd hi (Nat.not_lt_zero _), _, _, _, _, _, rfl⟩ (fun i σ H4 _ ⟨e, _⟩ => SqL.of (e _ _ e3)) ?_ ?_
    · rintro i u σ H4 hi ⟨s4, no, o4, o5, o6, o7, o8, rfl⟩
      obtain ⟨b, eb, p, ws, rfl, hp, enb⟩ := Paired.get (bk.keep (TFr.same s4)) hi
      have ib := books_mem (List.mem_of_getElem? eb)
      have nb : b.Nodup := nodup_snd (by rw [ib.1]; exact ris'.nd)
      have lb : b.length ≤ 3 := by
        have := congrArg List.length ib.1
        rw [List.length_map, pz.length_eq] at this
        omega
      have sokb : ∀ e ∈ b, PyData.strOk e.2 = true := fun e he => sok e.2 (pz.subset (by rw [← ib.1]; exact List.mem_map.mpr ⟨e, he, rfl⟩))
      have lotb : ∀ e ∈ b, e.1.length ≤ 1000 := fun e he => by
        have := ((rng_ok many).sub (lots_sub (perm.mem_iff.mp (ib.2 e he)))).len
        omega
      have s04 := s03.trans s4
      refine ⟨_, rfl, rfl, _, rfl, ?_⟩
      refine ite2 (fun isr => ?g1) (fun nisr => ?g2)
      case' g1 =>
        have hrow : man = "row" := V.str.inj (of_decide_eq_true isr)
        refine ⟨_, rfl, p, ws, b, rfl, hp, enb, lb, sokb, fun q2 xs2 H5 e5 bk5 s5 => ?_⟩
        have bkr : Bks H5 xs2 (rowsB man b) := by unfold rowsB; rw [if_pos hrow]; exact bk5
        clear bk5 isr hrow
      case' g2 =>
        have hrow : ¬ man = "row" := fun z => nisr (decide_eq_true (by rw [z]))
        refine ⟨_, rfl, by show 1 ≤ sizeLine; decide, fun q2 h2 => ?_⟩
        have s5 : Same H4 (upd H4 q2 (.lst [.ref p])) := Same.new h2
        have e5 : (upd H4 q2 (.lst [.ref p])) q2 = some (.lst [.ref p]) := upd_same
        generalize upd H4 q2 (.lst [.ref p]) = H5 at *
        generalize hx2 : [V.ref p] = xs2 at *
        have bkr : Bks H5 xs2 (rowsB man b) := by
          rw [← hx2]
          unfold rowsB; rw [if_neg hrow]; exact .cons ⟨p, ws, rfl, s5 _ _ hp, Ents.keep (TFr.same s5) enb⟩ .nil
        clear hx2 nisr hrow h2
      all_goals
        refine ⟨q2, rfl, ⟨_, SqL.of e5⟩, ?_⟩
        have s05 := s04.trans s5
        have lx2 := Paired.length bkr
        refine for_list (K := K) (a := q2) (xs := xs2) (fun j σ H6 => Same H5 H6 ∧ (∀ j' < j, ∀ row, (rowsB man b)[j']? = some row → ¬ Speaks man rows row) ∧ ∃ o5 o6 o7 o8 : Option V, σ = [some (.int many), some (.ref pc), some (.ref pf), some (.str man), some (.ref p), o5, o6, o7, o8])
          ⟨Same.refl _, fun i hi => absurd hi (Nat.not_lt_zero _), _, _, _, _, rfl⟩ (fun i σ H6 _ ⟨e, _⟩ => SqL.of (e _ _ e5)) ?_ ?_
        · clear o5 o6 o7 o8
          rintro j v σ H6 hj ⟨s6, noj, o5, o6, o7, o8, rfl⟩
          obtain ⟨row, er, pr, wr, rfl, hpr, enr⟩ := Paired.get (bkr.keep (TFr.same s6)) hj
          have io := rowsB_in nb (List.mem_of_getElem? er)
          have s06 := s05.trans s6
          have hc6 := s06 _ _ hc
          refine ⟨_, rfl, pc, rfl, ⟨_, sqT hc6⟩, fun D hD => ?_⟩
          refine lc_tup (K := K) (a := pc) (xs := cy) (fun m H7 => H7 D = some (.lst ((cells.take m).map fun c => formV (speaksX man row c))) ∧ Same H6 H7) ⟨upd_same, Same.new hD⟩ (fun m H7 _ ⟨_, e⟩ => sqT (e _ _ hc6)) ?_ ?_
          · rintro m y H7 hm' ⟨e7, s7⟩
            obtain ⟨c, ec, mcc⟩ := Paired.get (mc.keep (TFr.same (s06.trans s7))) hm'
            have lc := (mok c (List.mem_of_getElem? ec)).len
            refine ⟨rfl, _, rfl, _, rfl, _, rfl, man, pr, wr, row, y, c, rfl, s7 _ _ hpr, Ents.keep (TFr.same s7) enr, fun e he => lotb e (io.2.2 e he), by rw [io.2.1]; omega, mcc, by omega, fun H8 s8 => ?_⟩
            refine ⟨_, s8 _ _ e7, small1000 (by rw [List.length_map, List.length_take]; omega), ?_, fun b o h => by rw [upd_ne (ne_of_none h hD)]; exact s8 _ _ (s7 b o h)⟩
            rw [upd_same, List.take_add_one, ec, List.map_append]; rfl
          rintro H7 ⟨e7, s7⟩
          rw [List.take_of_length_le (by rw [lcy]; exact Nat.le_refl _)] at e7
          have s07 := s06.trans s7
          have hc7 := s07 _ _ hc
          have hf7 := s07 _ _ hf
          refine ⟨_, rfl, _, cy.length, rfl, .inr ⟨_, sqT hc7, rfl⟩, _, rfl, by omega, by omega, fun D2 hD2 => ?_⟩
          refine lc_range (lo := 0) (n := cy.length) (fun m H8 => ∃ acc : List V, H8 D2 = some (.lst acc) ∧ Same H7 H8 ∧ acc.length ≤ m ∧ (acc = [] ↔ ∀ k < m, ∀ c z, cells[k]? = some c → fs[k]? = some (some z) → speaksX man row c = some z)) ⟨[], upd_same, Same.new hD2, Nat.le_refl _, fun _ k hk => absurd hk (Nat.not_lt_zero _), fun _ => rfl⟩ ?_ ?_
          · rintro m H8 hm' ⟨acc, e8, s8, la, iff8⟩
            have ltc : m < cells.length := by omega
            have ltf : m < fs.length := by omega
            have ec : cells[m]? = some cells[m] := List.getElem?_eq_getElem ltc
            have ef : fs[m]? = some fs[m] := List.getElem?_eq_getElem ltf
            have gf : (fs.map formV)[m]? = some (formV fs[m]) := by rw [List.getElem?_map, ef]; rfl
            have gt : (cells.map fun c => formV (speaksX man row c))[m]? = some (formV (speaksX man row cells[m])) := by rw [List.getElem?_map, ec]; rfl
            have step : (∀ k < m + 1, ∀ c z, cells[k]? = some c → fs[k]? = some (some z) → speaksX man row c = some z) ↔ ((∀ k < m, ∀ c z, cells[k]? = some c → fs[k]? = some (some z) → speaksX man row c = some z) ∧ ∀ z, fs[m] = some z → speaksX man row cells[m] = some z) := by
              constructor
              · intro h
                exact ⟨fun k hk => h k (by omega), fun z hz => h m (by omega) _ z ec (by rw [ef, hz])⟩
              · rintro ⟨h1, h2⟩ k hk c z e1 e2
                by_cases q : k = m
                · subst q
                  rw [ec] at e1
                  rw [ef] at e2
                  rw [← Option.some.inj e1]
                  exact h2 z (Option.some.inj e2)
                · exact h1 k (by omega) c z e1 e2
            have i0 : (0 + (m : Int)) = ((m : Nat) : Int) := by omega
            have hf8 := s8 _ _ hf7
            have e78 := s8 _ _ e7
            refine ⟨rfl, _, rfl, _, rfl, pf, _, _, _, rfl, rfl, sqT hf8, at_of (j := m) i0 gf, rfl, _, rfl, ?_⟩
            cases hfm : fs[m] with
            | none =>
              refine iteF ⟨acc, e8, s8, by omega, iff8.trans ⟨fun h => step.mpr ⟨h, fun z hz => by rw [hfm] at hz; cases hz⟩, fun h => (step.mp h).1⟩⟩
            | some z =>
              rw [hfm] at gf
              refine iteT ⟨_, rfl, _, rfl, D, _, _, _, rfl, rfl, SqL.of e78, at_of (j := m) i0 gt, _, rfl, _, rfl, pf, _, _, _, rfl, rfl, sqT hf8, at_of (j := m) i0 gf, by cases speaksX man row cells[m] <;> rfl, _, rfl, ?_⟩
              refine ite2 (fun ne => ?_) (fun ne => ?_)
              · have ne' : speaksX man row cells[m] ≠ some z := fun q => by rw [q, decide_eq_true rfl] at ne; cases ne
                refine ⟨_, rfl, acc, e8, small1000 (by omega), acc ++ [.int (0 + (m : Nat))], upd_same, fun b o h => by rw [upd_ne (ne_of_none h hD2)]; exact s8 _ _ h, by rw [List.length_append]; exact Nat.succ_le_succ la, ⟨fun h => by simp at h, fun h => absurd ((step.mp h).2 z hfm) ne'⟩⟩
              · have eq' : speaksX man row cells[m] = some z := by
                  have q : formV (speaksX man row cells[m]) = formV (some z) := Decidable.byContradiction fun w => ne (by rw [decide_eq_false w]; rfl)
                  cases hsx : speaksX man row cells[m] with
                  | none => rw [hsx] at q; cases q
                  | some y => rw [hsx] at q; rw [V.str.inj q]
                refine ⟨acc, e8, s8, by omega, iff8.trans ⟨fun h => step.mpr ⟨h, fun y hy => ?_⟩, fun h => (step.mp h).1⟩⟩
                rw [hfm] at hy
                rw [eq', Option.some.inj hy]
          · rintro H8 ⟨acc, e8, s8, la, iff8⟩
            have spk : acc = [] ↔ Speaks man rows row := by
              rw [iff8]
              constructor
              · intro h r hr
                rw [← hrows] at hr
                obtain ⟨k, e1, e2⟩ := rows_mem.mp hr
                exact h k (by have := (List.getElem?_eq_some_iff.mp e1).1; omega) _ _ e1 e2
              · intro h k _ c z e1 e2
                exact h (c, z) (by rw [← hrows]; exact rows_mem.mpr ⟨k, e1, e2⟩)
            refine ⟨_, acc.length, rfl, .inl ⟨_, SqL.of e8, rfl⟩, rfl, _, rfl, ?_⟩
            have s68 := s7.trans s8
            refine ite2 (fun z => ?_) (fun z => ?_)
            · have z0 : acc = [] := by
                have := V.int.inj (of_decide_eq_true z)
                exact List.length_eq_zero_iff.mp (by omega)
              have ans : madeB man rows = true := mi.mpr ⟨b, List.mem_of_getElem? eb, row, List.mem_of_getElem? er, spk.mp z0⟩
              have kk := k H8 (s06.trans s68)
              rw [ans] at kk
              exact kk
            · refine ⟨s6.trans s68, fun j' hj' row' er' => ?_, _, _, _, _, rfl⟩
              by_cases q : j' = j
              · subst q
                rw [er] at er'
                obtain rfl := Option.some.inj er'
                exact fun sp => z (by rw [spk.mpr sp]; exact decide_eq_true rfl)
              · exact noj j' (by omega) row' er'
        · rintro σ H6 ⟨s6, noj, o5, o6, o7, o8, rfl⟩
          refine ⟨s4.trans (s5.trans s6), fun i' hi' b' eb' row hr => ?_, _, _, _, _, _, rfl⟩
          by_cases z : i' = i
          · subst z
            rw [eb] at eb'
            obtain rfl := Option.some.inj eb'
            obtain ⟨j, hj⟩ := List.mem_iff_getElem?.mp hr
            exact noj j (by rw [lx2]; exact (List.getElem?_eq_some_iff.mp hj).1) row hj
          · exact no i' (by omega) b' eb' row hr
    · rintro σ H4 ⟨s4, no, o4, o5, o6, o7, o8, rfl⟩
      have : madeB man rows = false := Bool.eq_false_iff.mpr fun h => by
        obtain ⟨b, hb, row, hr, sp⟩ := mi.mp h
        obtain ⟨i, hi⟩ := List.mem_iff_getElem?.mp hb
        exact no i (by rw [lxs]; exact (List.getElem?_eq_some_iff.mp hi).1) b hi row hr sp
      have kk := k H4 (s03.trans s4)
      rw [this] at kk
      exact kk
end
end Xci

namespace Xci
open PySem L2
theorem nm13_str : ∀ z ∈ nm13, PyData.strOk z = true := by decide +kernel
section
variable {P : Program} {w : World} {K : PySem.W.Frag} {mg : Str → Option Value} {base : Heap}
theorem Dice.script {H H' : Hp} {a l p : Addr} {ns : List Int} (d : Dice H a l) (h : SqL K H p (ns.map V.int)) (f : Fr a H H') : SqL K H' p (ns.map V.int) := by
  obtain ⟨ms, i, c, s, n, e, _⟩ := d
  rcases h with (h | ⟨o, h⟩) | h
  · refine .inl (.inl (f _ _ h fun z => ?_))
    subst z
    rw [e] at h
    have q : [V.ref l, .int i, .int c, .int s, .int n] = ns.map V.int := by
      injection h with h
      injection h
    cases ns with
    | nil => cases q
    | cons x r =>
      rw [List.map_cons] at q
      injection q with q _
      cases q
  · exact .inl (.inr ⟨o, f _ _ h fun z => by subst z; rw [e] at h; cases h⟩)
  · exact .inr h
def spLaw (K : PySem.W.Frag) : Sp := fun vs H Q _ => ∃ (a : Addr) (ns : List Int), vs = [.ref a] ∧ SqL K H a (ns.map V.int) ∧ ns.length ≤ 63 ∧ ∀ H', Q (.bl true) H'
abbrev sLaw : Stmt := top 62
theorem scLaw : FnScope ["script", "dice", "turn", "manner", "many", "cells", "forms", "due"] ["script"] (defScope sLaw) := ⟨rfl, rfl, rfl, by decide +kernel, rfl, by decide +kernel, by decide +kernel⟩
set_option maxHeartbeats 16000000 in
theorem ok_law {f CF C : Addr} {fd : FuncData} (F : Fun K "law" "law" sLaw f fd) (T : Txt mg) (HDi : Has P w K mg base "_law_dice" ["script"] 1 (spDice K)) (HRa : Has P w K mg base "_law_rare" ["script", "many"] 1 (spRare K)) (HMa : Has P w K mg base "_law_manner" ["dice"] 2 spManner) (HTa : Has P w K mg base "_law_table" ["dice", "manner", "most_marks", "most_cells", "opens"] 4 spTableM) (HBu : Has P w K mg base "_law_built" ["drawn"] 7 (spBuilt CF C))
    (HGr : Has P w K mg base "_law_great_right" ["dice", "manner"] 9 spGreatRight) (HRi : Has P w K mg base "_law_right" ["drawn", "manner"] 8 spLawRight) (HLp : Has P w K mg base "_law_spoken" ["forms"] 1 spLawSpoken) (HSb : Has P w K mg base "_law_some_book" ["many", "cells", "forms", "manner"] 3 spSomeBook) (HFg : Has P w K mg base "_law_flag" ["told", "due"] 1 spLawFlag) (HIm : Has P w K mg base "is_made" ["table", "manner"] 4 (spIsMade CF C)) :
    FnOk P w K mg base CX0 10 f fd ["script"] (spLaw K) := by
  refine F.ok scLaw (fun vs H Q E h => ?_) (fun cdv A outer s H vs Q E hr h => ?_)
  · obtain ⟨a, ns, rfl, _⟩ := h
    rfl
  · obtain ⟨sa, ns, rfl, hS, hlen, k⟩ := h
    refine ⟨_, (C8.pss_cut (ps_set (i := 1) scLaw.nd rfl (by first | exact Or.inl rfl | exact Or.inr rfl) (pe_callH HDi (hr.mono (by decide)) rfl (pa_cons (pv 0) pa_nil)))
      (C8.pss_cut (ps_if (PW.pt (pw_and (pt_cmpR op_eq (pe_callH HRa (hr.mono (by decide)) rfl (pa_cons (pv 0) (pa_cons pe_int pa_nil))) pe_int (nomark _)) (pw_and1 (pt_not (pt_val (pe_callH HGr (hr.mono (by decide)) rfl (pa_cons (pv 1) (pa_cons (pe_callH HMa (hr.mono (by decide)) rfl (pa_cons (pv 1) pa_nil)) pa_nil)))))))) (pss_one (ps_ret pe_bl)) pss_nil)
      (C8.pss_cut (ps_for PassesOwn.never rfl (pi_range1 rfl T.range (pa_cons pe_int pa_nil)) (pg_name (i := 2) scLaw.nd rfl (by first | exact Or.inl rfl | exact Or.inr rfl)) (C8.pss_cut (ps_set (i := 3) scLaw.nd rfl (by first | exact Or.inl rfl | exact Or.inr rfl) (pe_callH HMa (hr.mono (by decide)) rfl (pa_cons (pv 1) pa_nil)))
      (pss_one (ps_if (pt_not (pt_val (pe_callH HRi (hr.mono (by decide)) rfl (pa_cons (pe_callH HTa (hr.mono (by decide)) rfl (pa_cons (pv 1) (pa_cons (pv 3) (pa_cons pe_int (pa_cons pe_int (pa_cons pe_int pa_nil)))))) (pa_cons (pv 3) pa_nil))))) (pss_one (ps_ret pe_bl)) pss_nil))))
      (C8.pss_cut (ps_set (i := 3) scLaw.nd rfl (by first | exact Or.inl rfl | exact Or.inr rfl) (pe_callH HMa (hr.mono (by decide)) rfl (pa_cons (pv 1) pa_nil)))
      (C8.pss_cut (ps_asg (pe_callH HTa (hr.mono (by decide)) rfl (pa_cons (pv 1) (pa_cons (pv 3) (pa_cons pe_int (pa_cons pe_int (pa_cons pe_int pa_nil)))))) (pg_tup rfl (pgs_cons (pg_name (i := 4) scLaw.nd rfl (by first | exact Or.inl rfl | exact Or.inr rfl)) (pgs_cons (pg_name (i := 5) scLaw.nd rfl (by first | exact Or.inl rfl | exact Or.inr rfl)) (pgs_cons (pg_name (i := 6) scLaw.nd rfl (by first | exact Or.inl rfl | exact Or.inr rfl)) pgs_nil)))))
      (pss_cons (ps_if (pt_cmpR op_lt (pe_callB call_len rfl T.len PySem.boot_len (pa_cons (pe_callH HLp (hr.mono (by decide)) rfl (pa_cons (pv 6) pa_nil)) pa_nil)) pe_int (nomark _)) (pss_cons (ps_set (i := 7) scLaw.nd rfl (by first | exact Or.inl rfl | exact Or.inr rfl) (pe_callH HSb (hr.mono (by decide)) rfl (pa_cons (pv 4) (pa_cons (pv 5) (pa_cons (pv 6) (pa_cons (pv 3) pa_nil))))))
      (pss_one (ps_ret (pe_callH HFg (hr.mono (by decide)) rfl (pa_cons (pe_callH HIm (hr.mono (by decide)) rfl (pa_cons (pe_callH HBu (hr.mono (by decide)) rfl (pa_cons (pe_tup (pa_cons (pv 4) (pa_cons (pv 5) (pa_cons (pv 6) pa_nil)))) pa_nil)) (pa_cons (pv 3) pa_nil))) (pa_cons (pv 7) pa_nil)))))) pss_nil)
      (pss_one (ps_ret pe_bl)))))))), ?_⟩
    refine ⟨fun σ' H1 => ∃ a ld : Addr, Dice H1 a ld ∧ SqL K H1 sa (ns.map V.int) ∧ σ' = [some (.ref sa), some (.ref a), none, none, none, none, none, none], ?_, ?_⟩
    · exact ⟨_, rfl, sa, ns, rfl, hS, hlen, fun a ld H1 hd1 s1 => ⟨a, ld, hd1, Same.seq s1 hS, rfl⟩⟩
    rintro σ' H1 ⟨a, ld, hd1, hS1, rfl⟩
    refine ⟨fun σ' H2 => Dice H2 a ld ∧ SqL K H2 sa (ns.map V.int) ∧ σ' = [some (.ref sa), some (.ref a), none, none, none, none, none, none], ?_, ?_⟩
    · refine ⟨_, rfl, sa, ns, _, rfl, hS1, hlen, by decide, fun d H2 d0 d1 s2 => ⟨rfl, _, rfl, ?_⟩⟩
      have hd2 := hd1.keep s2
      have hS2 : SqL K H2 sa (ns.map V.int) := Same.seq s2 hS1
      refine ite2 (fun _ => ?_) (fun _ => iteF ⟨hd2, hS2, rfl⟩)
      refine ⟨_, rfl, _, rfl, a, ld, rfl, hd2, fun m H3 hm hd3 f3 => ⟨a, ld, m, rfl, hd3, hm, fun H4 hd4 f4 => ⟨_, rfl, iteF ⟨hd4, hd3.script (hd2.script hS2 f3) f4, rfl⟩⟩⟩⟩
    clear hd1 hS1 hS H1
    rintro σ' H1 ⟨hd1, hS1, rfl⟩
    refine ⟨fun σ' H2 => Dice H2 a ld ∧ SqL K H2 sa (ns.map V.int) ∧ ∃ o2 o3 : Option V, σ' = [some (.ref sa), some (.ref a), o2, o3, none, none, none, none], ?_, ?_⟩
    · refine ⟨_, rfl, by decide, by decide, ?_⟩
      refine for_range (n := 3) (fun i σ H2 => Dice H2 a ld ∧ SqL K H2 sa (ns.map V.int) ∧ ∃ o2 o3 : Option V, σ = [some (.ref sa), some (.ref a), o2, o3, none, none, none, none]) ⟨hd1, hS1, _, _, rfl⟩ ?_ (fun σ H2 h => h)
      rintro i σ H2 hi ⟨hd2, hS2, o2, o3, rfl⟩
      refine ⟨fun σ' H3 => ∃ man : Str, Man2 man ∧ Dice H3 a ld ∧ SqL K H3 sa (ns.map V.int) ∧ σ' = [some (.ref sa), some (.ref a), some (.int (0 + (i : Nat))), some (.str man), none, none, none, none], ?_, ?_⟩
      · exact ⟨_, rfl, a, ld, rfl, hd2, fun m H3 hm hd3 f3 => ⟨m, hm, hd3, hd2.script hS2 f3, rfl⟩⟩
      rintro σ' H3 ⟨man, hm, hd3, hS3, rfl⟩
      refine ⟨_, rfl, _, rfl, a, ld, man, 4, 8, 3, rfl, hd3, by decide, by decide, by decide, by decide, by decide, by decide, fun v many pc pf cy cells fs zs H4 d _ _ hd4 f4 => ⟨_, rfl, v, many, pc, pf, cy, cells, fs, zs, man, rfl, d, hm, fun H5 s5 => ⟨_, rfl, iteF ⟨hd4.keep s5, Same.seq s5 (hd3.script hS3 f4), _, _, rfl⟩⟩⟩⟩
    clear hd1 hS1 H1
    rintro σ' H1 ⟨hd1, hS1, o2, o3, rfl⟩
    refine ⟨fun σ' H3 => ∃ man : Str, Man2 man ∧ Dice H3 a ld ∧ σ' = [some (.ref sa), some (.ref a), o2, some (.str man), none, none, none, none], ?_, ?_⟩
    · exact ⟨_, rfl, a, ld, rfl, hd1, fun m H3 hm hd3 f3 => ⟨m, hm, hd3, rfl⟩⟩
    clear hd1 hS1 H1
    rintro σ' H3 ⟨man, hm, hd3, rfl⟩
    refine ⟨fun σ' H4 => ∃ (v : V) (many : Int) (pc pf : Addr) (cy : List V) (cells : List (List Int)) (fs : List (Option Str)) (zs : List Str), Drawn H4 v many pc pf cy cells fs zs ∧ many ≤ 2 ∧ σ' = [some (.ref sa), some (.ref a), o2, some (.str man), some (.int many), some (.ref pc), some (.ref pf), none], ?_, ?_⟩
    · refine ⟨_, rfl, _, rfl, a, ld, man, 2, 4, 1, rfl, hd3, by decide, by decide, by decide, by decide, by decide, by decide, fun v many pc pf cy cells fs zs H4 d m2 _ hd4 f4 => ?_⟩
      obtain ⟨tp, ev, htp⟩ := d.tup
      subst ev
      exact ⟨tp, _, rfl, sqT htp, rfl, _, _, rfl, _, _, rfl, _, _, rfl, rfl, .ref tp, many, pc, pf, cy, cells, fs, zs, d, m2, rfl⟩
    rintro σ' H4 ⟨v, many, pc, pf, cy, cells, fs, zs, d, m2, rfl⟩
    have mok : ∀ c ∈ cells, MarksOk 6 c := fun c hc => (d.fok.ok c hc).le d.fok.hi
    have len := d.len
    have c24 := d.fok.len
    refine ⟨_, rfl, pf, fs, rfl, d.fp, by omega, fun qz us H5 ris eq _ s5 => ?_⟩
    refine ⟨_, us.length, rfl, .inl ⟨_, SqL.of eq, by rw [List.length_map]⟩, _, _, rfl, rfl, _, rfl, ?_⟩
    refine ite2 (fun few => ?_) (fun _ => ?_)
    · have u3 : us.length ≤ 3 := by
        have := of_decide_eq_true few
        omega
      have d5 := d.tfr (TFr.same s5)
      refine ⟨_, rfl, _, rfl, _, rfl, _, rfl, many, pc, pf, cy, cells, fs, us, man, rfl, d5.cp, d5.cm, d5.fp, len, c24, d.fok.lo, m2, d.fok.ok, ris, u3, fun z hz => nm13_str z (d.wok z (d.mem z ((ris.all z).mp hz))), hm, fun H6 s6 => ?_⟩
      have d6 := d5.tfr (TFr.same s6)
      refine ⟨_, rfl, _, rfl, _, rfl, by show 3 ≤ sizeLine; decide, fun t ht => ?_⟩
      have s7 : Same H6 (upd H6 t (.tup [.int many, .ref pc, .ref pf])) := Same.new ht
      have d7 : Drawn (upd H6 t (.tup [.int many, .ref pc, .ref pf])) (.ref t) many pc pf cy cells fs zs := { d6.tfr (TFr.same s7) with tup := ⟨t, rfl, upd_same⟩ }
      refine ⟨.ref t, many, pc, pf, cy, cells, fs, zs, rfl, d7, fun t' fm H8 ht' hf' s8 => ?_⟩
      have d8 := d7.tfr (TFr.same s8)
      refine ⟨_, rfl, t', fm, pf, fs, many, pc, cy, cells, man, rfl, ht', d8.fp, hf', d8.cp, d8.cm, mok, c24, len.symm, hm, fun H9 s9 => ⟨_, rfl, _, _, rfl, ?_⟩⟩
      rw [show decide (madeB man (rowsOf cells fs) = madeB man (rowsOf cells fs)) = true from decide_eq_true rfl]
      exact k H9
    · exact k H5
end
end Xci

namespace Xci
open PySem L2
set_option maxHeartbeats 8000000 in
theorem all_mk {l : PySem.W.OpenLaw} {w : World} {K : PySem.W.Frag} {h : Heap} {mg : Str → Option Value} {fa f0 f1 f2 f3 f4 f5 f6 f7 f8 f9 f10 f11 f12 f13 f14 f15 f16 f17 f18 f19 f20 f21 f22 f23 f24 f25 f26 f27 f28 f29 f30 f31 f32 f33 f34 f35 f36 f37 f38 f39 f40 f41 f42 f43 f44 f45 f46 C CF aM : Addr} (X : K.In h) (G : h.Ns mainGlobals mg) (hfa : mg "law" = some (.ref fa))
    {od0 an0 od1 an1 od2 an2 od3 an3 od4 an4 od5 an5 od6 an6 od7 an7 od8 an8 od9 an9 od10 an10 od11 an11 od12 an12 od13 an13 od14 an14 od15 an15 od16 an16 od17 an17 od18 an18 od19 an19 od20 an20 od21 an21 od22 an22 od23 an23 od24 an24 od25 an25 od26 an26 od27 an27 od28 an28 od29 an29 od30 an30 od31 an31 od32 an32 od33 an33 od34 an34 od35 an35 od36 an36 od37 an37 od38 an38 od39 an39 od40 an40 od41 an41 od42 an42 od43 an43 od44 an44 od45 an45 od46 an46 odM : Option Addr} {sl0 sl1 sl2 sl3 sl4 sl5 sl6 sl7 sl8 sl9 sl10 sl11 sl12 sl13 sl14 sl15 sl16 sl17 sl18 sl19 sl20 sl21 sl22 sl23 sl24 sl25 sl26 sl27 sl28 sl29 sl30 sl31 sl32 sl33 sl34 sl35 sl36 sl37 sl38 sl39 sl40 sl41 sl42 sl43 sl44 sl45 sl46 slM : Array (Option Value)} {oc0 kV0 dc0 pm0 cd0 ct0 oc1 kV1 dc1 pm1 cd1 ct1 oc2 kV2 dc2 pm2 cd2 ct2 oc3 kV3 dc3 pm3 cd3 ct3 oc4 kV4 dc4 pm4 cd4 ct4 oc5 kV5 dc5 pm5 cd5 ct5 oc6 kV6 dc6 pm6 cd6 ct6 oc7 kV7 dc7 pm7 cd7 ct7 oc8 kV8 dc8 pm8 cd8 ct8 oc9 kV9 dc9 pm9 cd9 ct9 oc10 kV10 dc10 pm10 cd10 ct10 oc11 kV11 dc11 pm11 cd11 ct11 oc12 kV12 dc12 pm12 cd12 ct12 oc13 kV13 dc13 pm13 cd13 ct13 oc14 kV14 dc14 pm14 cd14 ct14 oc15 kV15 dc15 pm15 cd15 ct15 oc16 kV16 dc16 pm16 cd16 ct16 oc17 kV17 dc17 pm17 cd17 ct17 oc18 kV18 dc18 pm18 cd18 ct18 oc19 kV19 dc19 pm19 cd19 ct19 oc20 kV20 dc20 pm20 cd20 ct20 oc21 kV21 dc21 pm21 cd21 ct21 oc22 kV22 dc22 pm22 cd22 ct22 oc23 kV23 dc23 pm23 cd23 ct23 oc24 kV24 dc24 pm24 cd24 ct24 oc25 kV25 dc25 pm25 cd25 ct25 oc26 kV26 dc26 pm26 cd26 ct26 oc27 kV27 dc27 pm27 cd27 ct27 oc28 kV28 dc28 pm28 cd28 ct28 oc29 kV29 dc29 pm29 cd29 ct29 oc30 kV30 dc30 pm30 cd30 ct30 oc31 kV31 dc31 pm31 cd31 ct31 oc32 kV32 dc32 pm32 cd32 ct32 oc33 kV33 dc33 pm33 cd33 ct33 oc34 kV34 dc34 pm34 cd34 ct34 oc35 kV35 dc35 pm35 cd35 ct35 oc36 kV36 dc36 pm36 cd36 ct36 oc37 kV37 dc37 pm37 cd37 ct37 oc38 kV38 dc38 pm38 cd38 ct38 oc39 kV39 dc39 pm39 cd39 ct39 oc40 kV40 dc40 pm40 cd40 ct40 oc41 kV41 dc41 pm41 cd41 ct41 oc42 kV42 dc42 pm42 cd42 ct42 oc43 kV43 dc43 pm43 cd43 ct43 oc44 kV44 dc44 pm44 cd44 ct44 oc45 kV45 dc45 pm45 cd45 ct45 oc46 kV46 dc46 pm46 cd46 ct46 : Value} {u0 u1 u2 u3 w0 w1 : Tok} {nM : Nat}
    (a0 : PySem.W.nsIn K mainGlobals "is_integer" = some (some (.ref f0))) (l0 : K.lookup f0 = some ⟨oc0, od0, .func (PySem.W.fnOf "is_integer" "is_integer" (defArgs sIsInteger) (defBody sIsInteger) (defScope sIsInteger) .none kV0 dc0 pm0 an0 cd0 ct0), sl0⟩) (c0 : PySem.W.codeIn K cd0 "is_integer" = true) (k0 : PySem.W.keepIn K (.ref f0) = true)
    (a1 : PySem.W.nsIn K mainGlobals "is_between" = some (some (.ref f1))) (l1 : K.lookup f1 = some ⟨oc1, od1, .func (PySem.W.fnOf "is_between" "is_between" (defArgs sIsBetween) (defBody sIsBetween) (defScope sIsBetween) .none kV1 dc1 pm1 an1 cd1 ct1), sl1⟩) (c1 : PySem.W.codeIn K cd1 "is_between" = true) (k1 : PySem.W.keepIn K (.ref f1) = true)
    (a2 : PySem.W.nsIn K mainGlobals "is_cell" = some (some (.ref f2))) (l2 : K.lookup f2 = some ⟨oc2, od2, .func (PySem.W.fnOf "is_cell" "is_cell" (defArgs sIsCell) (defBody sIsCell) (defScope sIsCell) .none kV2 dc2 pm2 an2 cd2 ct2), sl2⟩) (c2 : PySem.W.codeIn K cd2 "is_cell" = true) (k2 : PySem.W.keepIn K (.ref f2) = true)
    (a3 : PySem.W.nsIn K mainGlobals "is_form" = some (some (.ref f3))) (l3 : K.lookup f3 = some ⟨oc3, od3, .func (PySem.W.fnOf "is_form" "is_form" (defArgs sIsForm) (defBody sIsForm) (defScope sIsForm) .none kV3 dc3 pm3 an3 cd3 ct3), sl3⟩) (c3 : PySem.W.codeIn K cd3 "is_form" = true) (k3 : PySem.W.keepIn K (.ref f3) = true)
    (a4 : PySem.W.nsIn K mainGlobals "bits" = some (some (.ref f4))) (l4 : K.lookup f4 = some ⟨oc4, od4, .func (PySem.W.fnOf "bits" "bits" (defArgs sBits) (defBody sBits) (defScope sBits) .none kV4 dc4 pm4 an4 cd4 ct4), sl4⟩) (c4 : PySem.W.codeIn K cd4 "bits" = true) (k4 : PySem.W.keepIn K (.ref f4) = true)
    (a5 : PySem.W.nsIn K mainGlobals "_are_forms" = some (some (.ref f5))) (l5 : K.lookup f5 = some ⟨oc5, od5, .func (PySem.W.fnOf "_are_forms" "_are_forms" (defArgs sAreForms) (defBody sAreForms) (defScope sAreForms) .none kV5 dc5 pm5 an5 cd5 ct5), sl5⟩) (c5 : PySem.W.codeIn K cd5 "_are_forms" = true) (k5 : PySem.W.keepIn K (.ref f5) = true)
    (a6 : PySem.W.nsIn K mainGlobals "_unlike" = some (some (.ref f6))) (l6 : K.lookup f6 = some ⟨oc6, od6, .func (PySem.W.fnOf "_unlike" "_unlike" (defArgs sUnlike) (defBody sUnlike) (defScope sUnlike) .none kV6 dc6 pm6 an6 cd6 ct6), sl6⟩) (c6 : PySem.W.codeIn K cd6 "_unlike" = true) (k6 : PySem.W.keepIn K (.ref f6) = true)
    (a7 : PySem.W.nsIn K mainGlobals "cell_bits" = some (some (.ref f7))) (l7 : K.lookup f7 = some ⟨oc7, od7, .func (PySem.W.fnOf "cell_bits" "cell_bits" (defArgs sCellBits) (defBody sCellBits) (defScope sCellBits) .none kV7 dc7 pm7 an7 cd7 ct7), sl7⟩) (c7 : PySem.W.codeIn K cd7 "cell_bits" = true) (k7 : PySem.W.keepIn K (.ref f7) = true)
    (a8 : PySem.W.nsIn K mainGlobals "common_bits" = some (some (.ref f8))) (l8 : K.lookup f8 = some ⟨oc8, od8, .func (PySem.W.fnOf "common_bits" "common_bits" (defArgs sCommonBits) (defBody sCommonBits) (defScope sCommonBits) .none kV8 dc8 pm8 an8 cd8 ct8), sl8⟩) (c8 : PySem.W.codeIn K cd8 "common_bits" = true) (k8 : PySem.W.keepIn K (.ref f8) = true)
    (a9 : PySem.W.nsIn K mainGlobals "shrink" = some (some (.ref f9))) (l9 : K.lookup f9 = some ⟨oc9, od9, .func (PySem.W.fnOf "shrink" "shrink" (defArgs sShrink) (defBody sShrink) (defScope sShrink) .none kV9 dc9 pm9 an9 cd9 ct9), sl9⟩) (c9 : PySem.W.codeIn K cd9 "shrink" = true) (k9 : PySem.W.keepIn K (.ref f9) = true)
    (a10 : PySem.W.nsIn K mainGlobals "_is_struck" = some (some (.ref f10))) (l10 : K.lookup f10 = some ⟨oc10, od10, .func (PySem.W.fnOf "_is_struck" "_is_struck" (defArgs sIsStruck) (defBody sIsStruck) (defScope sIsStruck) .none kV10 dc10 pm10 an10 cd10 ct10), sl10⟩) (c10 : PySem.W.codeIn K cd10 "_is_struck" = true) (k10 : PySem.W.keepIn K (.ref f10) = true)
    (a11 : PySem.W.nsIn K mainGlobals "need_manner" = some (some (.ref f11))) (l11 : K.lookup f11 = some ⟨oc11, od11, .func (PySem.W.fnOf "need_manner" "need_manner" (defArgs sNeedManner) (defBody sNeedManner) (defScope sNeedManner) .none kV11 dc11 pm11 an11 cd11 ct11), sl11⟩) (c11 : PySem.W.codeIn K cd11 "need_manner" = true) (k11 : PySem.W.keepIn K (.ref f11) = true)
    (a12 : PySem.W.nsIn K mainGlobals "made_so" = some (some (.ref f12))) (l12 : K.lookup f12 = some ⟨oc12, od12, .func (PySem.W.fnOf "made_so" "made_so" (defArgs sMadeSo) (defBody sMadeSo) (defScope sMadeSo) .none kV12 dc12 pm12 an12 cd12 ct12), sl12⟩) (c12 : PySem.W.codeIn K cd12 "made_so" = true) (k12 : PySem.W.keepIn K (.ref f12) = true)
    (a13 : PySem.W.nsIn K mainGlobals "_stand_in_a_row" = some (some (.ref f13))) (l13 : K.lookup f13 = some ⟨oc13, od13, .func (PySem.W.fnOf "_stand_in_a_row" "_stand_in_a_row" (defArgs sStandInARow) (defBody sStandInARow) (defScope sStandInARow) .none kV13 dc13 pm13 an13 cd13 ct13), sl13⟩) (c13 : PySem.W.codeIn K cd13 "_stand_in_a_row" = true) (k13 : PySem.W.keepIn K (.ref f13) = true)
    (a14 : PySem.W.nsIn K mainGlobals "_reaches_one" = some (some (.ref f14))) (l14 : K.lookup f14 = some ⟨oc14, od14, .func (PySem.W.fnOf "_reaches_one" "_reaches_one" (defArgs sReachesOne) (defBody sReachesOne) (defScope sReachesOne) .none kV14 dc14 pm14 an14 cd14 ct14), sl14⟩) (c14 : PySem.W.codeIn K cd14 "_reaches_one" = true) (k14 : PySem.W.keepIn K (.ref f14) = true)
    (a15 : PySem.W.nsIn K mainGlobals "is_made" = some (some (.ref f15))) (l15 : K.lookup f15 = some ⟨oc15, od15, .func (PySem.W.fnOf "is_made" "is_made" (defArgs sIsMade) (defBody sIsMade) (defScope sIsMade) .none kV15 dc15 pm15 an15 cd15 ct15), sl15⟩) (c15 : PySem.W.codeIn K cd15 "is_made" = true) (k15 : PySem.W.keepIn K (.ref f15) = true)
    (a16 : PySem.W.nsIn K mainGlobals "_are_cells" = some (some (.ref f16))) (l16 : K.lookup f16 = some ⟨oc16, od16, .func (PySem.W.fnOf "_are_cells" "_are_cells" (defArgs sAreCells) (defBody sAreCells) (defScope sAreCells) .none kV16 dc16 pm16 an16 cd16 ct16), sl16⟩) (c16 : PySem.W.codeIn K cd16 "_are_cells" = true) (k16 : PySem.W.keepIn K (.ref f16) = true)
    (a17 : PySem.W.nsIn K mainGlobals "_law_dice" = some (some (.ref f17))) (l17 : K.lookup f17 = some ⟨oc17, od17, .func (PySem.W.fnOf "_law_dice" "_law_dice" (defArgs sLawDice) (defBody sLawDice) (defScope sLawDice) .none kV17 dc17 pm17 an17 cd17 ct17), sl17⟩) (c17 : PySem.W.codeIn K cd17 "_law_dice" = true) (k17 : PySem.W.keepIn K (.ref f17) = true)
    (a18 : PySem.W.nsIn K mainGlobals "_law_draw" = some (some (.ref f18))) (l18 : K.lookup f18 = some ⟨oc18, od18, .func (PySem.W.fnOf "_law_draw" "_law_draw" (defArgs sLawDraw) (defBody sLawDraw) (defScope sLawDraw) .none kV18 dc18 pm18 an18 cd18 ct18), sl18⟩) (c18 : PySem.W.codeIn K cd18 "_law_draw" = true) (k18 : PySem.W.keepIn K (.ref f18) = true)
    (a19 : PySem.W.nsIn K mainGlobals "_law_rare" = some (some (.ref f19))) (l19 : K.lookup f19 = some ⟨oc19, od19, .func (PySem.W.fnOf "_law_rare" "_law_rare" (defArgs sLawRare) (defBody sLawRare) (defScope sLawRare) .none kV19 dc19 pm19 an19 cd19 ct19), sl19⟩) (c19 : PySem.W.codeIn K cd19 "_law_rare" = true) (k19 : PySem.W.keepIn K (.ref f19) = true)
    (a20 : PySem.W.nsIn K mainGlobals "_law_within" = some (some (.ref f20))) (l20 : K.lookup f20 = some ⟨oc20, od20, .func (PySem.W.fnOf "_law_within" "_law_within" (defArgs sLawWithin) (defBody sLawWithin) (defScope sLawWithin) .none kV20 dc20 pm20 an20 cd20 ct20), sl20⟩) (c20 : PySem.W.codeIn K cd20 "_law_within" = true) (k20 : PySem.W.keepIn K (.ref f20) = true)
    (a21 : PySem.W.nsIn K mainGlobals "_law_order" = some (some (.ref f21))) (l21 : K.lookup f21 = some ⟨oc21, od21, .func (PySem.W.fnOf "_law_order" "_law_order" (defArgs sLawOrder) (defBody sLawOrder) (defScope sLawOrder) .none kV21 dc21 pm21 an21 cd21 ct21), sl21⟩) (c21 : PySem.W.codeIn K cd21 "_law_order" = true) (k21 : PySem.W.keepIn K (.ref f21) = true)
    (a22 : PySem.W.nsIn K mainGlobals "_law_all_cells" = some (some (.ref f22))) (l22 : K.lookup f22 = some ⟨oc22, od22, .func (PySem.W.fnOf "_law_all_cells" "_law_all_cells" (defArgs sLawAllCells) (defBody sLawAllCells) (defScope sLawAllCells) .none kV22 dc22 pm22 an22 cd22 ct22), sl22⟩) (c22 : PySem.W.codeIn K cd22 "_law_all_cells" = true) (k22 : PySem.W.keepIn K (.ref f22) = true)
    (a23 : PySem.W.nsIn K mainGlobals "_law_family" = some (some (.ref f23))) (l23 : K.lookup f23 = some ⟨oc23, od23, .func (PySem.W.fnOf "_law_family" "_law_family" (defArgs sLawFamily) (defBody sLawFamily) (defScope sLawFamily) .none kV23 dc23 pm23 an23 cd23 ct23), sl23⟩) (c23 : PySem.W.codeIn K cd23 "_law_family" = true) (k23 : PySem.W.keepIn K (.ref f23) = true)
    (a24 : PySem.W.nsIn K mainGlobals "_law_names" = some (some (.ref f24))) (l24 : K.lookup f24 = some ⟨oc24, od24, .func (PySem.W.fnOf "_law_names" "_law_names" (defArgs sLawNames) (defBody sLawNames) (defScope sLawNames) .none kV24 dc24 pm24 an24 cd24 ct24), sl24⟩) (c24 : PySem.W.codeIn K cd24 "_law_names" = true) (k24 : PySem.W.keepIn K (.ref f24) = true)
    (a25 : PySem.W.nsIn K mainGlobals "_law_some" = some (some (.ref f25))) (l25 : K.lookup f25 = some ⟨oc25, od25, .func (PySem.W.fnOf "_law_some" "_law_some" (defArgs sLawSome) (defBody sLawSome) (defScope sLawSome) .none kV25 dc25 pm25 an25 cd25 ct25), sl25⟩) (c25 : PySem.W.codeIn K cd25 "_law_some" = true) (k25 : PySem.W.keepIn K (.ref f25) = true)
    (a26 : PySem.W.nsIn K mainGlobals "_law_common" = some (some (.ref f26))) (l26 : K.lookup f26 = some ⟨oc26, od26, .func (PySem.W.fnOf "_law_common" "_law_common" (defArgs sLawCommon) (defBody sLawCommon) (defScope sLawCommon) .none kV26 dc26 pm26 an26 cd26 ct26), sl26⟩) (c26 : PySem.W.codeIn K cd26 "_law_common" = true) (k26 : PySem.W.keepIn K (.ref f26) = true)
    (a27 : PySem.W.nsIn K mainGlobals "_law_groups" = some (some (.ref f27))) (l27 : K.lookup f27 = some ⟨oc27, od27, .func (PySem.W.fnOf "_law_groups" "_law_groups" (defArgs sLawGroups) (defBody sLawGroups) (defScope sLawGroups) .none kV27 dc27 pm27 an27 cd27 ct27), sl27⟩) (c27 : PySem.W.codeIn K cd27 "_law_groups" = true) (k27 : PySem.W.keepIn K (.ref f27) = true)
    (a28 : PySem.W.nsIn K mainGlobals "_law_row_made" = some (some (.ref f28))) (l28 : K.lookup f28 = some ⟨oc28, od28, .func (PySem.W.fnOf "_law_row_made" "_law_row_made" (defArgs sLawRowMade) (defBody sLawRowMade) (defScope sLawRowMade) .none kV28 dc28 pm28 an28 cd28 ct28), sl28⟩) (c28 : PySem.W.codeIn K cd28 "_law_row_made" = true) (k28 : PySem.W.keepIn K (.ref f28) = true)
    (a29 : PySem.W.nsIn K mainGlobals "_law_shrink" = some (some (.ref f29))) (l29 : K.lookup f29 = some ⟨oc29, od29, .func (PySem.W.fnOf "_law_shrink" "_law_shrink" (defArgs sLawShrink) (defBody sLawShrink) (defScope sLawShrink) .none kV29 dc29 pm29 an29 cd29 ct29), sl29⟩) (c29 : PySem.W.codeIn K cd29 "_law_shrink" = true) (k29 : PySem.W.keepIn K (.ref f29) = true)
    (a30 : PySem.W.nsIn K mainGlobals "_law_within_made" = some (some (.ref f30))) (l30 : K.lookup f30 = some ⟨oc30, od30, .func (PySem.W.fnOf "_law_within_made" "_law_within_made" (defArgs sLawWithinMade) (defBody sLawWithinMade) (defScope sLawWithinMade) .none kV30 dc30 pm30 an30 cd30 ct30), sl30⟩) (c30 : PySem.W.codeIn K cd30 "_law_within_made" = true) (k30 : PySem.W.keepIn K (.ref f30) = true)
    (a31 : PySem.W.nsIn K mainGlobals "_law_made" = some (some (.ref f31))) (l31 : K.lookup f31 = some ⟨oc31, od31, .func (PySem.W.fnOf "_law_made" "_law_made" (defArgs sLawMade) (defBody sLawMade) (defScope sLawMade) .none kV31 dc31 pm31 an31 cd31 ct31), sl31⟩) (c31 : PySem.W.codeIn K cd31 "_law_made" = true) (k31 : PySem.W.keepIn K (.ref f31) = true)
    (a32 : PySem.W.nsIn K mainGlobals "_law_speaks" = some (some (.ref f32))) (l32 : K.lookup f32 = some ⟨oc32, od32, .func (PySem.W.fnOf "_law_speaks" "_law_speaks" (defArgs sLawSpeaks) (defBody sLawSpeaks) (defScope sLawSpeaks) .none kV32 dc32 pm32 an32 cd32 ct32), sl32⟩) (c32 : PySem.W.codeIn K cd32 "_law_speaks" = true) (k32 : PySem.W.keepIn K (.ref f32) = true)
    (a33 : PySem.W.nsIn K mainGlobals "_law_forms" = some (some (.ref f33))) (l33 : K.lookup f33 = some ⟨oc33, od33, .func (PySem.W.fnOf "_law_forms" "_law_forms" (defArgs sLawForms) (defBody sLawForms) (defScope sLawForms) .none kV33 dc33 pm33 an33 cd33 ct33), sl33⟩) (c33 : PySem.W.codeIn K cd33 "_law_forms" = true) (k33 : PySem.W.keepIn K (.ref f33) = true)
    (a34 : PySem.W.nsIn K mainGlobals "_law_table" = some (some (.ref f34))) (l34 : K.lookup f34 = some ⟨oc34, od34, .func (PySem.W.fnOf "_law_table" "_law_table" (defArgs sLawTable) (defBody sLawTable) (defScope sLawTable) .none kV34 dc34 pm34 an34 cd34 ct34), sl34⟩) (c34 : PySem.W.codeIn K cd34 "_law_table" = true) (k34 : PySem.W.keepIn K (.ref f34) = true)
    (a35 : PySem.W.nsIn K mainGlobals "_law_built" = some (some (.ref f35))) (l35 : K.lookup f35 = some ⟨oc35, od35, .func (PySem.W.fnOf "_law_built" "_law_built" (defArgs sLawBuilt) (defBody sLawBuilt) (defScope sLawBuilt) .none kV35 dc35 pm35 an35 cd35 ct35), sl35⟩) (c35 : PySem.W.codeIn K cd35 "_law_built" = true) (k35 : PySem.W.keepIn K (.ref f35) = true)
    (a36 : PySem.W.nsIn K mainGlobals "_law_manner" = some (some (.ref f36))) (l36 : K.lookup f36 = some ⟨oc36, od36, .func (PySem.W.fnOf "_law_manner" "_law_manner" (defArgs sLawManner) (defBody sLawManner) (defScope sLawManner) .none kV36 dc36 pm36 an36 cd36 ct36), sl36⟩) (c36 : PySem.W.codeIn K cd36 "_law_manner" = true) (k36 : PySem.W.keepIn K (.ref f36) = true)
    (a37 : PySem.W.nsIn K mainGlobals "_law_spoken" = some (some (.ref f37))) (l37 : K.lookup f37 = some ⟨oc37, od37, .func (PySem.W.fnOf "_law_spoken" "_law_spoken" (defArgs sLawSpoken) (defBody sLawSpoken) (defScope sLawSpoken) .none kV37 dc37 pm37 an37 cd37 ct37), sl37⟩) (c37 : PySem.W.codeIn K cd37 "_law_spoken" = true) (k37 : PySem.W.keepIn K (.ref f37) = true)
    (a38 : PySem.W.nsIn K mainGlobals "_law_flag" = some (some (.ref f38))) (l38 : K.lookup f38 = some ⟨oc38, od38, .func (PySem.W.fnOf "_law_flag" "_law_flag" (defArgs sLawFlag) (defBody sLawFlag) (defScope sLawFlag) .none kV38 dc38 pm38 an38 cd38 ct38), sl38⟩) (c38 : PySem.W.codeIn K cd38 "_law_flag" = true) (k38 : PySem.W.keepIn K (.ref f38) = true)
    (a39 : PySem.W.nsIn K mainGlobals "_law_books" = some (some (.ref f39))) (l39 : K.lookup f39 = some ⟨oc39, od39, .func (PySem.W.fnOf "_law_books" "_law_books" (defArgs sLawBooks) (defBody sLawBooks) (defScope sLawBooks) .none kV39 dc39 pm39 an39 cd39 ct39), sl39⟩) (c39 : PySem.W.codeIn K cd39 "_law_books" = true) (k39 : PySem.W.keepIn K (.ref f39) = true)
    (a40 : PySem.W.nsIn K mainGlobals "_law_orders" = some (some (.ref f40))) (l40 : K.lookup f40 = some ⟨oc40, od40, .func (PySem.W.fnOf "_law_orders" "_law_orders" (defArgs sLawOrders) (defBody sLawOrders) (defScope sLawOrders) .none kV40 dc40 pm40 an40 cd40 ct40), sl40⟩) (c40 : PySem.W.codeIn K cd40 "_law_orders" = true) (k40 : PySem.W.keepIn K (.ref f40) = true)
    (a41 : PySem.W.nsIn K mainGlobals "_law_some_book" = some (some (.ref f41))) (l41 : K.lookup f41 = some ⟨oc41, od41, .func (PySem.W.fnOf "_law_some_book" "_law_some_book" (defArgs sLawSomeBook) (defBody sLawSomeBook) (defScope sLawSomeBook) .none kV41 dc41 pm41 an41 cd41 ct41), sl41⟩) (c41 : PySem.W.codeIn K cd41 "_law_some_book" = true) (k41 : PySem.W.keepIn K (.ref f41) = true)
    (a42 : PySem.W.nsIn K mainGlobals "_law_right" = some (some (.ref f42))) (l42 : K.lookup f42 = some ⟨oc42, od42, .func (PySem.W.fnOf "_law_right" "_law_right" (defArgs sLawRight) (defBody sLawRight) (defScope sLawRight) .none kV42 dc42 pm42 an42 cd42 ct42), sl42⟩) (c42 : PySem.W.codeIn K cd42 "_law_right" = true) (k42 : PySem.W.keepIn K (.ref f42) = true)
    (a43 : PySem.W.nsIn K mainGlobals "_law_great_right" = some (some (.ref f43))) (l43 : K.lookup f43 = some ⟨oc43, od43, .func (PySem.W.fnOf "_law_great_right" "_law_great_right" (defArgs sLawGreatRight) (defBody sLawGreatRight) (defScope sLawGreatRight) .none kV43 dc43 pm43 an43 cd43 ct43), sl43⟩) (c43 : PySem.W.codeIn K cd43 "_law_great_right" = true) (k43 : PySem.W.keepIn K (.ref f43) = true)
    (a44 : PySem.W.nsIn K mainGlobals "law" = some (some (.ref f44))) (l44 : K.lookup f44 = some ⟨oc44, od44, .func (PySem.W.fnOf "law" "law" (defArgs sLaw) (defBody sLaw) (defScope sLaw) .none kV44 dc44 pm44 an44 cd44 ct44), sl44⟩) (c44 : PySem.W.codeIn K cd44 "law" = true) (k44 : PySem.W.keepIn K (.ref f44) = true)
    (a45 : PySem.W.findIn K (.ref C) "__init__" = some (some (.ref f45))) (i45 : PySem.W.isFn K (.ref f45) = true) (l45 : K.lookup f45 = some ⟨oc45, od45, .func (PySem.W.fnOf "__init__" "Table.__init__" (defArgs sTableInit) (defBody sTableInit) (defScope sTableInit) .none kV45 dc45 pm45 an45 cd45 ct45), sl45⟩) (c45 : PySem.W.codeIn K cd45 "Table.__init__" = true) (k45 : PySem.W.keepIn K (.ref f45) = true)
    (aCC : PySem.W.nsIn K mainGlobals "Table" = some (some (.ref C))) (pgCC : PySem.W.plainGet K C Str.empty = true) (hdCC : PySem.W.hasDictIn K C = true) (poCC : PySem.W.plainOver K C = true) (saCC : PySem.W.findIn K (.ref C) "__setattr__" = some (some (.builtin "object.__setattr__"))) (mkCC : PySem.W.makesIn K C = true) (kcCC : PySem.W.keepIn K (.ref C) = true)
    (nC_family : PySem.W.findIn K (.ref C) "family" = some none)
    (nC_forms : PySem.W.findIn K (.ref C) "forms" = some none)
    (a46 : PySem.W.findIn K (.ref CF) "__init__" = some (some (.ref f46))) (i46 : PySem.W.isFn K (.ref f46) = true) (l46 : K.lookup f46 = some ⟨oc46, od46, .func (PySem.W.fnOf "__init__" "Family.__init__" (defArgs sFamilyInit) (defBody sFamilyInit) (defScope sFamilyInit) .none kV46 dc46 pm46 an46 cd46 ct46), sl46⟩) (c46 : PySem.W.codeIn K cd46 "Family.__init__" = true) (k46 : PySem.W.keepIn K (.ref f46) = true)
    (aCCF : PySem.W.nsIn K mainGlobals "Family" = some (some (.ref CF))) (pgCCF : PySem.W.plainGet K CF Str.empty = true) (hdCCF : PySem.W.hasDictIn K CF = true) (poCCF : PySem.W.plainOver K CF = true) (saCCF : PySem.W.findIn K (.ref CF) "__setattr__" = some (some (.builtin "object.__setattr__"))) (mkCCF : PySem.W.makesIn K CF = true) (kcCCF : PySem.W.keepIn K (.ref CF) = true)
    (nCF_many : PySem.W.findIn K (.ref CF) "many" = some none)
    (nCF_cells : PySem.W.findIn K (.ref CF) "cells" = some none)
    (z_len : PySem.W.nsIn K mainGlobals "len" = some none)
    (z_int : PySem.W.nsIn K mainGlobals "int" = some none)
    (z_abs : PySem.W.nsIn K mainGlobals "abs" = some none)
    (z_list : PySem.W.nsIn K mainGlobals "list" = some none)
    (z_tuple : PySem.W.nsIn K mainGlobals "tuple" = some none)
    (z_range : PySem.W.nsIn K mainGlobals "range" = some none)
    (z_min : PySem.W.nsIn K mainGlobals "min" = some none)
    (z_isinstance : PySem.W.nsIn K mainGlobals "isinstance" = some none)
    (z_enumerate : PySem.W.nsIn K mainGlobals "enumerate" = some none)
    (z_bool : PySem.W.nsIn K mainGlobals "bool" = some none)
    (z_str : PySem.W.nsIn K mainGlobals "str" = some none)
    (z_all : PySem.W.nsIn K mainGlobals "all" = some none)
    (z_any : PySem.W.nsIn K mainGlobals "any" = some none)
    (z_sum : PySem.W.nsIn K mainGlobals "sum" = some none)
    (z_max : PySem.W.nsIn K mainGlobals "max" = some none)
    (z_sorted : PySem.W.nsIn K mainGlobals "sorted" = some none)
    (z_zip : PySem.W.nsIn K mainGlobals "zip" = some none)
    (z_set : PySem.W.nsIn K mainGlobals "set" = some none)
    (g_LONGEST_FORM : PySem.W.nsIn K mainGlobals "LONGEST_FORM" = some (some (.int 8 u0)))
    (g_MOST_FORMS : PySem.W.nsIn K mainGlobals "MOST_FORMS" = some (some (.int 12 u1)))
    (g_MOST_MARKS : PySem.W.nsIn K mainGlobals "MOST_MARKS" = some (some (.int 6 u2)))
    (g_MOST_CELLS : PySem.W.nsIn K mainGlobals "MOST_CELLS" = some (some (.int 24 u3)))
    (aM0 : PySem.W.nsIn K mainGlobals "MANNERS_OF_MAKING" = some (some (.ref aM))) (lM : K.lookup aM = some ⟨.type "tuple", odM, .seq #[.str "row" w0, .str "within" w1] nM, slM⟩) :
    ∃ fd : FuncData, (∀ (s : Shared) (v : Value), BindsTo s fd ⟨[v], []⟩ [("script", v)]) ∧ ∀ base : Heap, K.In base → base.Ns mainGlobals mg → FnOk l.prog w K mg base CX0 10 fa fd ["script"] (spLaw K) := by
  have e := hfa.symm.trans (PySem.W.mg_of X G a44)
  cases e
  have T : Txt mg := ⟨PySem.W.mg_none_of X G z_len, PySem.W.mg_none_of X G z_int, PySem.W.mg_none_of X G z_abs, PySem.W.mg_none_of X G z_list, PySem.W.mg_none_of X G z_tuple, PySem.W.mg_none_of X G z_range, PySem.W.mg_none_of X G z_min, PySem.W.mg_none_of X G z_isinstance, PySem.W.mg_none_of X G z_enumerate, PySem.W.mg_none_of X G z_bool, PySem.W.mg_none_of X G z_str, PySem.W.mg_none_of X G z_all, PySem.W.mg_none_of X G z_any, PySem.W.mg_none_of X G z_sum, PySem.W.mg_none_of X G z_max, PySem.W.mg_none_of X G z_sorted, PySem.W.mg_none_of X G z_zip, PySem.W.mg_none_of X G z_set⟩
  have cF : FormCst mg := ⟨u0, PySem.W.mg_of X G g_LONGEST_FORM⟩
  have cT : TabCst mg := ⟨u1, PySem.W.mg_of X G g_MOST_FORMS⟩
  have cM : FamCst mg := ⟨u2, u3, PySem.W.mg_of X G g_MOST_MARKS, PySem.W.mg_of X G g_MOST_CELLS⟩
  have TT : TabTxt K mg C := ⟨⟨pgCC, hdCC, poCC, saCC⟩, nC_family, nC_forms, PySem.W.mg_of X G aCC⟩
  have FT : FamTxt K mg CF := ⟨⟨pgCCF, hdCCF, poCCF, saCCF⟩, nCF_many, nCF_cells, PySem.W.mg_of X G aCCF⟩
  have hMan : mg "MANNERS_OF_MAKING" = some (.ref aM) ∧ ∀ H : Hp, SqT K H aM [.str "row", .str "within"] := ⟨PySem.W.mg_of X G aM0, fun H => .inr ⟨_, _, _, lM, rfl, rfl, (by show 2 ≤ sizeLine; decide), .cons ⟨_, rfl⟩ (.cons ⟨_, rfl⟩ (.nil))⟩⟩
  have F_is_integer := fun_mk (st := sIsInteger) l0 c0 k0
  have b_is_integer := F_is_integer.binds (ps := ["thing"]) fun _ _ _ _ _ _ us hl => match us, hl with | [_], _ => rfl
  have F_is_between := fun_mk (st := sIsBetween) l1 c1 k1
  have b_is_between := F_is_between.binds (ps := ["low", "high", "thing"]) fun _ _ _ _ _ _ us hl => match us, hl with | [_, _, _], _ => rfl
  have F_is_cell := fun_mk (st := sIsCell) l2 c2 k2
  have b_is_cell := F_is_cell.binds (ps := ["many", "thing"]) fun _ _ _ _ _ _ us hl => match us, hl with | [_, _], _ => rfl
  have F_is_form := fun_mk (st := sIsForm) l3 c3 k3
  have b_is_form := F_is_form.binds (ps := ["thing"]) fun _ _ _ _ _ _ us hl => match us, hl with | [_], _ => rfl
  have F_bits := fun_mk (st := sBits) l4 c4 k4
  have b_bits := F_bits.binds (ps := ["marks"]) fun _ _ _ _ _ _ us hl => match us, hl with | [_], _ => rfl
  have F_are_forms := fun_mk (st := sAreForms) l5 c5 k5
  have b_are_forms := F_are_forms.binds (ps := ["length", "thing"]) fun _ _ _ _ _ _ us hl => match us, hl with | [_, _], _ => rfl
  have F_unlike := fun_mk (st := sUnlike) l6 c6 k6
  have b_unlike := F_unlike.binds (ps := ["forms"]) fun _ _ _ _ _ _ us hl => match us, hl with | [_], _ => rfl
  have F_cell_bits := fun_mk (st := sCellBits) l7 c7 k7
  have b_cell_bits := F_cell_bits.binds (ps := ["family"]) fun _ _ _ _ _ _ us hl => match us, hl with | [_], _ => rfl
  have F_common_bits := fun_mk (st := sCommonBits) l8 c8 k8
  have b_common_bits := F_common_bits.binds (ps := ["lots", "forms"]) fun _ _ _ _ _ _ us hl => match us, hl with | [_, _], _ => rfl
  have F_shrink := fun_mk (st := sShrink) l9 c9 k9
  have b_shrink := F_shrink.binds (ps := ["lots", "forms"]) fun _ _ _ _ _ _ us hl => match us, hl with | [_, _], _ => rfl
  have F_is_struck := fun_mk (st := sIsStruck) l10 c10 k10
  have b_is_struck := F_is_struck.binds (ps := ["left", "form", "other", "lot"]) fun _ _ _ _ _ _ us hl => match us, hl with | [_, _, _, _], _ => rfl
  have F_need_manner := fun_mk (st := sNeedManner) l11 c11 k11
  have b_need_manner := F_need_manner.binds (ps := ["thing"]) fun _ _ _ _ _ _ us hl => match us, hl with | [_], _ => rfl
  have F_made_so := fun_mk (st := sMadeSo) l12 c12 k12
  have b_made_so := F_made_so.binds (ps := ["lots", "forms", "manner"]) fun _ _ _ _ _ _ us hl => match us, hl with | [_, _, _], _ => rfl
  have F_stand_in_a_row := fun_mk (st := sStandInARow) l13 c13 k13
  have b_stand_in_a_row := F_stand_in_a_row.binds (ps := ["lots", "forms"]) fun _ _ _ _ _ _ us hl => match us, hl with | [_, _], _ => rfl
  have F_reaches_one := fun_mk (st := sReachesOne) l14 c14 k14
  have b_reaches_one := F_reaches_one.binds (ps := ["form", "marks", "told"]) fun _ _ _ _ _ _ us hl => match us, hl with | [_, _, _], _ => rfl
  have F_is_made := fun_mk (st := sIsMade) l15 c15 k15
  have b_is_made := F_is_made.binds (ps := ["table", "manner"]) fun _ _ _ _ _ _ us hl => match us, hl with | [_, _], _ => rfl
  have F_are_cells := fun_mk (st := sAreCells) l16 c16 k16
  have b_are_cells := F_are_cells.binds (ps := ["many", "thing"]) fun _ _ _ _ _ _ us hl => match us, hl with | [_, _], _ => rfl
  have F_law_dice := fun_mk (st := sLawDice) l17 c17 k17
  have b_law_dice := F_law_dice.binds (ps := ["script"]) fun _ _ _ _ _ _ us hl => match us, hl with | [_], _ => rfl
  have F_law_draw := fun_mk (st := sLawDraw) l18 c18 k18
  have b_law_draw := F_law_draw.binds (ps := ["dice", "sides"]) fun _ _ _ _ _ _ us hl => match us, hl with | [_, _], _ => rfl
  have F_law_rare := fun_mk (st := sLawRare) l19 c19 k19
  have b_law_rare := F_law_rare.binds (ps := ["script", "many"]) fun _ _ _ _ _ _ us hl => match us, hl with | [_, _], _ => rfl
  have F_law_within := fun_mk (st := sLawWithin) l20 c20 k20
  have b_law_within := F_law_within.binds (ps := ["one", "other"]) fun _ _ _ _ _ _ us hl => match us, hl with | [_, _], _ => rfl
  have F_law_order := fun_mk (st := sLawOrder) l21 c21 k21
  have b_law_order := F_law_order.binds (ps := ["dice", "many"]) fun _ _ _ _ _ _ us hl => match us, hl with | [_, _], _ => rfl
  have F_law_all_cells := fun_mk (st := sLawAllCells) l22 c22 k22
  have b_law_all_cells := F_law_all_cells.binds (ps := ["many"]) fun _ _ _ _ _ _ us hl => match us, hl with | [_], _ => rfl
  have F_law_family := fun_mk (st := sLawFamily) l23 c23 k23
  have b_law_family := F_law_family.binds (ps := ["dice", "most_marks", "most_cells"]) fun _ _ _ _ _ _ us hl => match us, hl with | [_, _, _], _ => rfl
  have F_law_names := fun_mk (st := sLawNames) l24 c24 k24
  have b_law_names := F_law_names.binds (ps := ["dice", "many"]) fun _ _ _ _ _ _ us hl => match us, hl with | [_, _], _ => rfl
  have F_law_some := fun_mk (st := sLawSome) l25 c25 k25
  have b_law_some := F_law_some.binds (ps := ["dice", "marks"]) fun _ _ _ _ _ _ us hl => match us, hl with | [_, _], _ => rfl
  have F_law_common := fun_mk (st := sLawCommon) l26 c26 k26
  have b_law_common := F_law_common.binds (ps := ["cells"]) fun _ _ _ _ _ _ us hl => match us, hl with | [_], _ => rfl
  have F_law_groups := fun_mk (st := sLawGroups) l27 c27 k27
  have b_law_groups := F_law_groups.binds (ps := ["cells", "forms"]) fun _ _ _ _ _ _ us hl => match us, hl with | [_, _], _ => rfl
  have F_law_row_made := fun_mk (st := sLawRowMade) l28 c28 k28
  have b_law_row_made := F_law_row_made.binds (ps := ["cells", "forms"]) fun _ _ _ _ _ _ us hl => match us, hl with | [_, _], _ => rfl
  have F_law_shrink := fun_mk (st := sLawShrink) l29 c29 k29
  have b_law_shrink := F_law_shrink.binds (ps := ["groups"]) fun _ _ _ _ _ _ us hl => match us, hl with | [_], _ => rfl
  have F_law_within_made := fun_mk (st := sLawWithinMade) l30 c30 k30
  have b_law_within_made := F_law_within_made.binds (ps := ["cells", "forms"]) fun _ _ _ _ _ _ us hl => match us, hl with | [_, _], _ => rfl
  have F_law_made := fun_mk (st := sLawMade) l31 c31 k31
  have b_law_made := F_law_made.binds (ps := ["cells", "forms", "manner"]) fun _ _ _ _ _ _ us hl => match us, hl with | [_, _, _], _ => rfl
  have F_law_speaks := fun_mk (st := sLawSpeaks) l32 c32 k32
  have b_law_speaks := F_law_speaks.binds (ps := ["manner", "entries", "cell"]) fun _ _ _ _ _ _ us hl => match us, hl with | [_, _, _], _ => rfl
  have F_law_forms := fun_mk (st := sLawForms) l33 c33 k33
  have b_law_forms := F_law_forms.binds (ps := ["dice", "cells", "manner"]) fun _ _ _ _ _ _ us hl => match us, hl with | [_, _, _], _ => rfl
  have F_law_table := fun_mk (st := sLawTable) l34 c34 k34
  have b_law_table := F_law_table.binds (ps := ["dice", "manner", "most_marks", "most_cells", "opens"]) fun _ _ _ _ _ _ us hl => match us, hl with | [_, _, _, _, _], _ => rfl
  have F_law_built := fun_mk (st := sLawBuilt) l35 c35 k35
  have b_law_built := F_law_built.binds (ps := ["drawn"]) fun _ _ _ _ _ _ us hl => match us, hl with | [_], _ => rfl
  have F_law_manner := fun_mk (st := sLawManner) l36 c36 k36
  have b_law_manner := F_law_manner.binds (ps := ["dice"]) fun _ _ _ _ _ _ us hl => match us, hl with | [_], _ => rfl
  have F_law_spoken := fun_mk (st := sLawSpoken) l37 c37 k37
  have b_law_spoken := F_law_spoken.binds (ps := ["forms"]) fun _ _ _ _ _ _ us hl => match us, hl with | [_], _ => rfl
  have F_law_flag := fun_mk (st := sLawFlag) l38 c38 k38
  have b_law_flag := F_law_flag.binds (ps := ["told", "due"]) fun _ _ _ _ _ _ us hl => match us, hl with | [_, _], _ => rfl
  have F_law_books := fun_mk (st := sLawBooks) l39 c39 k39
  have b_law_books := F_law_books.binds (ps := ["names", "every"]) fun _ _ _ _ _ _ us hl => match us, hl with | [_, _], _ => rfl
  have F_law_orders := fun_mk (st := sLawOrders) l40 c40 k40
  have b_law_orders := F_law_orders.binds (ps := ["entries"]) fun _ _ _ _ _ _ us hl => match us, hl with | [_], _ => rfl
  have F_law_some_book := fun_mk (st := sLawSomeBook) l41 c41 k41
  have b_law_some_book := F_law_some_book.binds (ps := ["many", "cells", "forms", "manner"]) fun _ _ _ _ _ _ us hl => match us, hl with | [_, _, _, _], _ => rfl
  have F_law_right := fun_mk (st := sLawRight) l42 c42 k42
  have b_law_right := F_law_right.binds (ps := ["drawn", "manner"]) fun _ _ _ _ _ _ us hl => match us, hl with | [_, _], _ => rfl
  have F_law_great_right := fun_mk (st := sLawGreatRight) l43 c43 k43
  have b_law_great_right := F_law_great_right.binds (ps := ["dice", "manner"]) fun _ _ _ _ _ _ us hl => match us, hl with | [_, _], _ => rfl
  have F_law := fun_mk (st := sLaw) l44 c44 k44
  have b_law := F_law.binds (ps := ["script"]) fun _ _ _ _ _ _ us hl => match us, hl with | [_], _ => rfl
  have F_initC := fun_mk (st := sTableInit) l45 c45 k45
  have b_initC := F_initC.binds (ps := ["self", "family", "forms"]) fun _ _ _ _ _ _ us hl => match us, hl with | [_, _, _], _ => rfl
  have F_initCF := fun_mk (st := sFamilyInit) l46 c46 k46
  have b_initCF := F_initCF.binds (ps := ["self", "many", "cells"]) fun _ _ _ _ _ _ us hl => match us, hl with | [_, _, _], _ => rfl
  refine ⟨PySem.W.fnOf "law" "law" (defArgs sLaw) (defBody sLaw) (defScope sLaw) .none kV44 dc44 pm44 an44 cd44 ct44, fun s v => .of_eq rfl, fun base _ _ => ?_⟩
  have HT : Has l.prog w K mg base "_law_draw" ["dice", "sides"] 1 spDraw := ⟨f18, _, ok_draw F_law_draw T, PySem.W.mg_of X G a18, k18, b_law_draw⟩
  have HDi : Has l.prog w K mg base "_law_dice" ["script"] 1 (spDice K) := ⟨f17, _, ok_dice F_law_dice T, PySem.W.mg_of X G a17, k17, b_law_dice⟩
  have HW : Has l.prog w K mg base "_law_within" ["one", "other"] 1 spIn := ⟨f20, _, ok_within F_law_within T, PySem.W.mg_of X G a20, k20, b_law_within⟩
  have HO : Has l.prog w K mg base "_law_order" ["dice", "many"] 2 spOrder := ⟨f21, _, ok_order F_law_order T HT, PySem.W.mg_of X G a21, k21, b_law_order⟩
  have HRa : Has l.prog w K mg base "_law_rare" ["script", "many"] 1 (spRare K) := ⟨f19, _, ok_rare F_law_rare T, PySem.W.mg_of X G a19, k19, b_law_rare⟩
  have HL : Has l.prog w K mg base "_law_all_cells" ["many"] 1 spAllCells := ⟨f22, _, ok_allCells F_law_all_cells T, PySem.W.mg_of X G a22, k22, b_law_all_cells⟩
  have HFa : Has l.prog w K mg base "_law_family" ["dice", "most_marks", "most_cells"] 3 spFamilyM := ⟨f23, _, ok_family F_law_family T HT HL HO, PySem.W.mg_of X G a23, k23, b_law_family⟩
  have HSo : Has l.prog w K mg base "_law_some" ["dice", "marks"] 2 spSome := ⟨f25, _, ok_either (ok_someT F_law_some T HT) (ok_someL F_law_some T HT), PySem.W.mg_of X G a25, k25, b_law_some⟩
  have HNm : Has l.prog w K mg base "_law_names" ["dice", "many"] 2 spNames := ⟨f24, _, ok_names F_law_names T HT, PySem.W.mg_of X G a24, k24, b_law_names⟩
  have HMa : Has l.prog w K mg base "_law_manner" ["dice"] 2 spManner := ⟨f36, _, ok_manner F_law_manner T HT, PySem.W.mg_of X G a36, k36, b_law_manner⟩
  have HSpk : Has l.prog w K mg base "_law_speaks" ["manner", "entries", "cell"] 2 spSpeaksN := ⟨f32, _, ok_speaksN F_law_speaks T HW, PySem.W.mg_of X G a32, k32, b_law_speaks⟩
  have HFo : Has l.prog w K mg base "_law_forms" ["dice", "cells", "manner"] 3 spFormsN := ⟨f33, _, ok_formsN F_law_forms T HT HNm HSo HSpk, PySem.W.mg_of X G a33, k33, b_law_forms⟩
  have HTa : Has l.prog w K mg base "_law_table" ["dice", "manner", "most_marks", "most_cells", "opens"] 4 spTableM := ⟨f34, _, ok_tableM F_law_table T HT HFa HFo, PySem.W.mg_of X G a34, k34, b_law_table⟩
  have HI : Has l.prog w K mg base "is_integer" ["thing"] 1 spIsInteger := ⟨f0, _, ok_integer F_is_integer T, PySem.W.mg_of X G a0, k0, b_is_integer⟩
  have HB : Has l.prog w K mg base "is_between" ["low", "high", "thing"] 2 spBetween := ⟨f1, _, ok_between F_is_between HI, PySem.W.mg_of X G a1, k1, b_is_between⟩
  have HC : Has l.prog w K mg base "is_cell" ["many", "thing"] 3 spIsCell := ⟨f2, _, ok_cell F_is_cell T HB, PySem.W.mg_of X G a2, k2, b_is_cell⟩
  have HF : Has l.prog w K mg base "is_form" ["thing"] 1 spIsForm := ⟨f3, _, ok_form F_is_form T cF, PySem.W.mg_of X G a3, k3, b_is_form⟩
  have HU : Has l.prog w K mg base "_unlike" ["forms"] 1 spUnlike := ⟨f6, _, ok_unlike F_unlike T, PySem.W.mg_of X G a6, k6, b_unlike⟩
  have HAf : Has l.prog w K mg base "_are_forms" ["length", "thing"] 2 spAreForms := ⟨f5, _, ok_areForms F_are_forms T cT HF HU, PySem.W.mg_of X G a5, k5, b_are_forms⟩
  have HAc : Has l.prog w K mg base "_are_cells" ["many", "thing"] 4 spAreCells := ⟨f16, _, ok_areCells F_are_cells T T.set cM HC, PySem.W.mg_of X G a16, k16, b_are_cells⟩
  have HFm : HasC l.prog w K mg base "Family" CF ["self", "many", "cells"] 5 (spFam CF) := ⟨f46, _, ok_fam F_initCF T cM FT HB HAc, ⟨mkCCF, a46, i46, kcCCF⟩, PySem.W.mg_of X G aCCF, b_initCF⟩
  have HTb : HasC l.prog w K mg base "Table" C ["self", "family", "forms"] 3 (spTab CF C) := ⟨f45, _, ok_table F_initC T TT FT HAf, ⟨mkCC, a45, i45, kcCC⟩, PySem.W.mg_of X G aCC, b_initC⟩
  have HBu : Has l.prog w K mg base "_law_built" ["drawn"] 7 (spBuilt CF C) := ⟨f35, _, ok_built F_law_built T HFm HTb, PySem.W.mg_of X G a35, k35, b_law_built⟩
  have HBi : Has l.prog w K mg base "bits" ["marks"] 1 spBits := ⟨f4, _, ok_bits F_bits T, PySem.W.mg_of X G a4, k4, b_bits⟩
  have HCl : Has l.prog w K mg base "cell_bits" ["family"] 2 (spCellBits CF) := ⟨f7, _, ok_cellBits F_cell_bits FT HBi, PySem.W.mg_of X G a7, k7, b_cell_bits⟩
  have HCb : Has l.prog w K mg base "common_bits" ["lots", "forms"] 1 (spCommonBits false) := ⟨f8, _, ok_commonBits F_common_bits T, PySem.W.mg_of X G a8, k8, b_common_bits⟩
  have HSt : Has l.prog w K mg base "_is_struck" ["left", "form", "other", "lot"] 1 spStruck := ⟨f10, _, ok_struck F_is_struck, PySem.W.mg_of X G a10, k10, b_is_struck⟩
  have HSh : Has l.prog w K mg base "shrink" ["lots", "forms"] 2 (spShrink false) := ⟨f9, _, ok_shrink F_shrink T HCb HSt, PySem.W.mg_of X G a9, k9, b_shrink⟩
  have HRo : Has l.prog w K mg base "_reaches_one" ["form", "marks", "told"] 1 spReachesOne := ⟨f14, _, ok_reachesOne F_reaches_one, PySem.W.mg_of X G a14, k14, b_reaches_one⟩
  have HRw : Has l.prog w K mg base "_stand_in_a_row" ["lots", "forms"] 2 (spStand false) := ⟨f13, _, ok_standInARow F_stand_in_a_row T HCb HRo, PySem.W.mg_of X G a13, k13, b_stand_in_a_row⟩
  have HMs : Has l.prog w K mg base "made_so" ["lots", "forms", "manner"] 3 (spMadeSo false) := ⟨f12, _, ok_madeSo F_made_so T T.set HRw HSh, PySem.W.mg_of X G a12, k12, b_made_so⟩
  have HNd : Has l.prog w K mg base "need_manner" ["thing"] 1 spNeedManner := ⟨f11, _, ok_needManner F_need_manner T hMan.1 hMan.2, PySem.W.mg_of X G a11, k11, b_need_manner⟩
  have HIm : Has l.prog w K mg base "is_made" ["table", "manner"] 4 (spIsMade CF C) := ⟨f15, _, ok_isMade F_is_made TT HNd HCl HMs, PySem.W.mg_of X G a15, k15, b_is_made⟩
  have HLc : Has l.prog w K mg base "_law_common" ["cells"] 1 spLawCommon := ⟨f26, _, ok_lawCommon F_law_common T, PySem.W.mg_of X G a26, k26, b_law_common⟩
  have HLg : Has l.prog w K mg base "_law_groups" ["cells", "forms"] 1 spLawGroups := ⟨f27, _, ok_lawGroups F_law_groups T, PySem.W.mg_of X G a27, k27, b_law_groups⟩
  have HLr : Has l.prog w K mg base "_law_row_made" ["cells", "forms"] 2 spLawRowMade := ⟨f28, _, ok_lawRowMade F_law_row_made T HLg HLc HW, PySem.W.mg_of X G a28, k28, b_law_row_made⟩
  have HLs : Has l.prog w K mg base "_law_shrink" ["groups"] 2 spLawShrink := ⟨f29, _, ok_lawShrink F_law_shrink T HLc HW, PySem.W.mg_of X G a29, k29, b_law_shrink⟩
  have HLw : Has l.prog w K mg base "_law_within_made" ["cells", "forms"] 3 spLawWithinMade := ⟨f30, _, ok_lawWithinMade F_law_within_made T T.set HLg HLs, PySem.W.mg_of X G a30, k30, b_law_within_made⟩
  have HLm : Has l.prog w K mg base "_law_made" ["cells", "forms", "manner"] 4 spLawMade := ⟨f31, _, ok_lawMade F_law_made HLr HLw, PySem.W.mg_of X G a31, k31, b_law_made⟩
  have HLp : Has l.prog w K mg base "_law_spoken" ["forms"] 1 spLawSpoken := ⟨f37, _, ok_lawSpoken F_law_spoken T T.set, PySem.W.mg_of X G a37, k37, b_law_spoken⟩
  have HFg : Has l.prog w K mg base "_law_flag" ["told", "due"] 1 spLawFlag := ⟨f38, _, ok_lawFlag F_law_flag T, PySem.W.mg_of X G a38, k38, b_law_flag⟩
  have HSx : Has l.prog w K mg base "_law_speaks" ["manner", "entries", "cell"] 2 spSpeaksT := ⟨f32, _, ok_speaksT F_law_speaks T HW, PySem.W.mg_of X G a32, k32, b_law_speaks⟩
  have HBk : Has l.prog w K mg base "_law_books" ["names", "every"] 1 spBooks := ⟨f39, _, ok_lawBooks F_law_books, PySem.W.mg_of X G a39, k39, b_law_books⟩
  have HOd : Has l.prog w K mg base "_law_orders" ["entries"] 1 spOrders := ⟨f40, _, ok_lawOrders F_law_orders T, PySem.W.mg_of X G a40, k40, b_law_orders⟩
  have HSb : Has l.prog w K mg base "_law_some_book" ["many", "cells", "forms", "manner"] 3 spSomeBook := ⟨f41, _, ok_lawSomeBook F_law_some_book T HLp HL HBk HOd HSx, PySem.W.mg_of X G a41, k41, b_law_some_book⟩
  have HRi : Has l.prog w K mg base "_law_right" ["drawn", "manner"] 8 spLawRight := ⟨f42, _, ok_lawRight F_law_right T HLm HFg HBu HIm, PySem.W.mg_of X G a42, k42, b_law_right⟩
  have HGr : Has l.prog w K mg base "_law_great_right" ["dice", "manner"] 9 spGreatRight := ⟨f43, _, ok_greatRight F_law_great_right T HL HO HT HNm HSo HSpk HRi, PySem.W.mg_of X G a43, k43, b_law_great_right⟩
  exact ok_law F_law T HDi HRa HMa HTa HBu HGr HRi HLp HSb HFg HIm
theorem walk {l : PySem.W.OpenLaw} {q : Program} {loose : List Str} {XP : (Str → Option Value) → Heap → Prop} {YP : World → Heap → Prop} {d : DefRec} {K : Params → PySem.W.Frag} (hn : l.most = some 63) (hdf : d.params.defaults = [])
    (hY : ∀ (w : World) (h : Heap), YP w h → (K w.params).In h)
    (F : ∀ (w : World) (mg : Str → Option Value) (fa : Addr) (h : Heap), (K w.params).In h → h.Ns mainGlobals mg → mg d.name = some (.ref fa) →
      ∃ fd : FuncData, (∀ (s : Shared) (u : Value), BindsTo s fd ⟨[u], []⟩ [("script", u)]) ∧ ∀ base : Heap, (K w.params).In base → base.Ns mainGlobals mg → FnOk l.prog w (K w.params) mg base CX0 10 fa fd ["script"] (spLaw (K w.params))) :
    PySem.W.WalkO q loose XP YP l.row.toRowW d [] (fun f vs => PySem.call f vs) :=
  L2.walk_of (n := 63) (k := 10) (x := "script") (CX := fun _ => CX0) (sp := fun w => spLaw (K w.params)) hn (by decide) hdf ⟨rfl, by decide, by decide⟩ hY F (fun _ _ a ns hl _ hS => ⟨a, ns, rfl, hS, hl, fun _ => rfl⟩) fun _ _ _ _ _ z => z
end Xci
open PySem PySem.W PyProof.Rows in
set_option maxRecDepth 100000 in
set_option maxHeartbeats 0 in
theorem PySem.Challenge.cw_sameforms_k49_whole_tables_that_are_made_holds : PySem.Challenge.rw_sameforms_k49_whole_tables_that_are_made.Holds := by
  w_on; o_law; k_head; (case hw => w_witness2)
  k_fill
  refine Xci.walk (l := PySem.Challenge.rw_sameforms_k49_whole_tables_that_are_made) rfl rfl (fun w h Y => PySem.W.kIn_of Y) ?F
  case F =>
    intro w mg fa h KX G hmg
    refine' Xci.all_mk KX G hmg ?a0 ?l0 ?c0 ?k0 ?a1 ?l1 ?c1 ?k1 ?a2 ?l2 ?c2 ?k2 ?a3 ?l3 ?c3 ?k3 ?a4 ?l4 ?c4 ?k4 ?a5 ?l5 ?c5 ?k5 ?a6 ?l6 ?c6 ?k6 ?a7 ?l7 ?c7 ?k7 ?a8 ?l8 ?c8 ?k8 ?a9 ?l9 ?c9 ?k9 ?a10 ?l10 ?c10 ?k10 ?a11 ?l11 ?c11 ?k11 ?a12 ?l12 ?c12 ?k12 ?a13 ?l13 ?c13 ?k13 ?a14 ?l14 ?c14 ?k14 ?a15 ?l15 ?c15 ?k15 ?a16 ?l16 ?c16 ?k16 ?a17 ?l17 ?c17 ?k17 ?a18 ?l18 ?c18 ?k18 ?a19 ?l19 ?c19 ?k19 ?a20 ?l20 ?c20 ?k20 ?a21 ?l21 ?c21 ?k21 ?a22 ?l22 ?c22 ?k22 ?a23 ?l23 ?c23 ?k23 ?a24 ?l24 ?c24 ?k24 ?a25 ?l25 ?c25 ?k25 ?a26 ?l26 ?c26 ?k26 ?a27 ?l27 ?c27 ?k27 ?a28 ?l28 ?c28 ?k28 ?a29 ?l29 ?c29 ?k29 ?a30 ?l30 ?c30 ?k30 ?a31 ?l31 ?c31 ?k31 ?a32 ?l32 ?c32 ?k32 ?a33 ?l33 ?c33 ?k33 ?a34 ?l34 ?c34 ?k34 ?a35 ?l35 ?c35 ?k35 ?a36 ?l36 ?c36 ?k36 ?a37 ?l37 ?c37 ?k37 ?a38 ?l38 ?c38 ?k38 ?a39 ?l39 ?c39 ?k39 ?a40 ?l40 ?c40 ?k40 ?a41 ?l41 ?c41 ?k41 ?a42 ?l42 ?c42 ?k42 ?a43 ?l43 ?c43 ?k43 ?a44 ?l44 ?c44 ?k44 ?a45 ?i45 ?l45 ?c45 ?k45 ?aCC ?pgCC ?hdCC ?poCC ?saCC ?mkCC ?kcCC ?nC_family ?nC_forms ?a46 ?i46 ?l46 ?c46 ?k46 ?aCCF ?pgCCF ?hdCCF ?poCCF ?saCCF ?mkCCF ?kcCCF ?nCF_many ?nCF_cells ?z_len ?z_int ?z_abs ?z_list ?z_tuple ?z_range ?z_min ?z_isinstance ?z_enumerate ?z_bool ?z_str ?z_all ?z_any ?z_sum ?z_max ?z_sorted ?z_zip ?z_set ?g_LONGEST_FORM ?g_MOST_FORMS ?g_MOST_MARKS ?g_MOST_CELLS ?aM0 ?lM
    (case aCC => k_is)
    (case aCCF => k_is)
    (case aM0 => k_is)
    (case a0 => k_is)
    (case l0 => k_is)
    (case c0 => k_is)
    (case k0 => k_is)
    (case a1 => k_is)
    (case l1 => k_is)
    (case c1 => k_is)
    (case k1 => k_is)
    (case a2 => k_is)
    (case l2 => k_is)
    (case c2 => k_is)
    (case k2 => k_is)
    (case a3 => k_is)
    (case l3 => k_is)
    (case c3 => k_is)
    (case k3 => k_is)
    (case a4 => k_is)
    (case l4 => k_is)
    (case c4 => k_is)
    (case k4 => k_is)
    (case a5 => k_is)
    (case l5 => k_is)
    (case c5 => k_is)
    (case k5 => k_is)
    (case a6 => k_is)
    (case l6 => k_is)
    (case c6 => k_is)
    (case k6 => k_is)
    (case a7 => k_is)
    (case l7 => k_is)
    (case c7 => k_is)
    (case k7 => k_is)
    (case a8 => k_is)
    (case l8 => k_is)
    (case c8 => k_is)
    (case k8 => k_is)
    (case a9 => k_is)
    (case l9 => k_is)
    (case c9 => k_is)
    (case k9 => k_is)
    (case a10 => k_is)
    (case l10 => k_is)
    (case c10 => k_is)
    (case k10 => k_is)
    (case a11 => k_is)
    (case l11 => k_is)
    (case c11 => k_is)
    (case k11 => k_is)
    (case a12 => k_is)
    (case l12 => k_is)
    (case c12 => k_is)
    (case k12 => k_is)
    (case a13 => k_is)
    (case l13 => k_is)
    (case c13 => k_is)
    (case k13 => k_is)
    (case a14 => k_is)
    (case l14 => k_is)
    (case c14 => k_is)
    (case k14 => k_is)
    (case a15 => k_is)
    (case l15 => k_is)
    (case c15 => k_is)
    (case k15 => k_is)
    (case a16 => k_is)
    (case l16 => k_is)
    (case c16 => k_is)
    (case k16 => k_is)
    (case a17 => k_is)
    (case l17 => k_is)
    (case c17 => k_is)
    (case k17 => k_is)
    (case a18 => k_is)
    (case l18 => k_is)
    (case c18 => k_is)
    (case k18 => k_is)
    (case a19 => k_is)
    (case l19 => k_is)
    (case c19 => k_is)
    (case k19 => k_is)
    (case a20 => k_is)
    (case l20 => k_is)
    (case c20 => k_is)
    (case k20 => k_is)
    (case a21 => k_is)
    (case l21 => k_is)
    (case c21 => k_is)
    (case k21 => k_is)
    (case a22 => k_is)
    (case l22 => k_is)
    (case c22 => k_is)
    (case k22 => k_is)
    (case a23 => k_is)
    (case l23 => k_is)
    (case c23 => k_is)
    (case k23 => k_is)
    (case a24 => k_is)
    (case l24 => k_is)
    (case c24 => k_is)
    (case k24 => k_is)
    (case a25 => k_is)
    (case l25 => k_is)
    (case c25 => k_is)
    (case k25 => k_is)
    (case a26 => k_is)
    (case l26 => k_is)
    (case c26 => k_is)
    (case k26 => k_is)
    (case a27 => k_is)
    (case l27 => k_is)
    (case c27 => k_is)
    (case k27 => k_is)
    (case a28 => k_is)
    (case l28 => k_is)
    (case c28 => k_is)
    (case k28 => k_is)
    (case a29 => k_is)
    (case l29 => k_is)
    (case c29 => k_is)
    (case k29 => k_is)
    (case a30 => k_is)
    (case l30 => k_is)
    (case c30 => k_is)
    (case k30 => k_is)
    (case a31 => k_is)
    (case l31 => k_is)
    (case c31 => k_is)
    (case k31 => k_is)
    (case a32 => k_is)
    (case l32 => k_is)
    (case c32 => k_is)
    (case k32 => k_is)
    (case a33 => k_is)
    (case l33 => k_is)
    (case c33 => k_is)
    (case k33 => k_is)
    (case a34 => k_is)
    (case l34 => k_is)
    (case c34 => k_is)
    (case k34 => k_is)
    (case a35 => k_is)
    (case l35 => k_is)
    (case c35 => k_is)
    (case k35 => k_is)
    (case a36 => k_is)
    (case l36 => k_is)
    (case c36 => k_is)
    (case k36 => k_is)
    (case a37 => k_is)
    (case l37 => k_is)
    (case c37 => k_is)
    (case k37 => k_is)
    (case a38 => k_is)
    (case l38 => k_is)
    (case c38 => k_is)
    (case k38 => k_is)
    (case a39 => k_is)
    (case l39 => k_is)
    (case c39 => k_is)
    (case k39 => k_is)
    (case a40 => k_is)
    (case l40 => k_is)
    (case c40 => k_is)
    (case k40 => k_is)
    (case a41 => k_is)
    (case l41 => k_is)
    (case c41 => k_is)
    (case k41 => k_is)
    (case a42 => k_is)
    (case l42 => k_is)
    (case c42 => k_is)
    (case k42 => k_is)
    (case a43 => k_is)
    (case l43 => k_is)
    (case c43 => k_is)
    (case k43 => k_is)
    (case a44 => k_is)
    (case l44 => k_is)
    (case c44 => k_is)
    (case k44 => k_is)
    (case a45 => k_is)
    (case i45 => k_is)
    (case l45 => k_is)
    (case c45 => k_is)
    (case k45 => k_is)
    (case pgCC => k_is)
    (case hdCC => k_is)
    (case poCC => k_is)
    (case saCC => k_is)
    (case mkCC => k_is)
    (case kcCC => k_is)
    (case nC_family => k_is)
    (case nC_forms => k_is)
    (case a46 => k_is)
    (case i46 => k_is)
    (case l46 => k_is)
    (case c46 => k_is)
    (case k46 => k_is)
    (case pgCCF => k_is)
    (case hdCCF => k_is)
    (case poCCF => k_is)
    (case saCCF => k_is)
    (case mkCCF => k_is)
    (case kcCCF => k_is)
    (case nCF_many => k_is)
    (case nCF_cells => k_is)
    (case z_len => k_is)
    (case z_int => k_is)
    (case z_abs => k_is)
    (case z_list => k_is)
    (case z_tuple => k_is)
    (case z_range => k_is)
    (case z_min => k_is)
    (case z_isinstance => k_is)
    (case z_enumerate => k_is)
    (case z_bool => k_is)
    (case z_str => k_is)
    (case z_all => k_is)
    (case z_any => k_is)
    (case z_sum => k_is)
    (case z_max => k_is)
    (case z_sorted => k_is)
    (case z_zip => k_is)
    (case z_set => k_is)
    (case g_LONGEST_FORM => k_is)
    (case g_MOST_FORMS => k_is)
    (case g_MOST_MARKS => k_is)
    (case g_MOST_CELLS => k_is)
    (case lM => k_is)
