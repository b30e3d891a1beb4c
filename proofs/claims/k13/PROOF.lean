import PyProof.Rows.All
import Wide.All
import OpenK.AllK
import Wide.FinOn
import HandS.ForMost
import KE.GoesEnum
import HandS.Codes
import HandS.IsInst
import HandS.Zip
import HandS.TupAny
import HandS.Deep
import HandS.TupSets
import HandS.Conv
import HandS.Walk
import HandS.SortInts
import HandS.More
import HandS.TupMul
import KE.GoesZip
import PySem.Challenge.RW_sameforms_k13_whole_the_greatest_one_spe
set_option Elab.async false
set_option linter.all false
set_option maxRecDepth 100000
namespace Xci
open PySem PySem.Spec PyProof.Rows L2
/-- what a tuple's walk begins with, and what counts it -/
def tupleWalkO (t : Addr) : Obj := { cls := .type "tuple_iterator", data := .fields #[.ref t, .int 0 0] }
def countO (walk : Addr) : Obj := { cls := .type "enumerate", data := .fields #[.none, .bool false, .ref walk, rawInt 0, .none, .none] }
abbrev counted (h : Heap) (t : Addr) : Heap := (h.push (tupleWalkO t)).push (countO h.objs.size)
theorem counted_kept {h : Heap} {t b : Addr} {o : Obj} (q : h.get? b = some o) : (counted h t).get? b = some o :=
  Heap.get?_push_of_some _ (Heap.get?_push_of_some _ q)
theorem counted_walk {h : Heap} {t : Addr} : (counted h t).IsTupleIter h.objs.size t 0 :=
  ⟨tupleWalkO t, Heap.get?_push_of_some _ (Heap.get?_push_size _ rfl), rfl, rfl⟩
theorem counted_at {h : Heap} {t : Addr} : IsEnum (counted h t) (h.objs.size + 1) h.objs.size 0 .none := by
  have q : (counted h t).get? (h.push (tupleWalkO t)).objs.size = some (countO h.objs.size) := Heap.get?_push_size _ rfl
  rw [Heap.size_push] at q
  exact q
set_option maxHeartbeats 1000000 in
theorem count_new (t : Addr) (items : Array Value) : Meets (Builtin.«enumerate.__new__» ⟨[.type "enumerate", .ref t], []⟩)
    (fun _ R s => s.heap.IsTuple t items ∧ R (.ok (.ret (.ref (s.heap.push (tupleWalkO t)).objs.size))) { s with heap := counted s.heap t }) :=
  .of_wp fun prog w A R s hs => by
    cases s
    have known := sub_enumerate
    have walk := fun {A' : Around} {E : Value → Shared → Prop} {Q : Value → Shared → Prop} (q : Q _ _) => (begins_tuple t items).iter prog w A' E _ Q hs.1 q
    wp_walk using walk
    refine wpAny_stack_any fun st => wpAny_pure ?_
    split
    case h_1 c _ _ _ _ _ => cases (c == Value.type "enumerate") <;> (wp_walk using walk; exact ⟨_, rfl, hs.2⟩)
    all_goals (wp_walk using walk; exact ⟨_, rfl, hs.2⟩)
theorem call_count {P : Program} {w : World} {A : Around} {E : Value → Shared → Prop} {s : Shared} {t : Addr} {items : Array Value} {Q : Value → Shared → Prop} (p : s.heap.IsTuple t items)
    (q : Q (.ref (s.heap.objs.size + 1)) { s with heap := counted s.heap t }) : wpAny (model P w) A (call (.type "enumerate") [.ref t]) Q E s := by
  refine callType_new F.called_enumerate (by decide) (F.typeCall_enumerate_1 _) (F.newCall_enumerate_1 _) (F.args_object_init_2 · _) F.entry_enumerate_new (count_new t items) ⟨p, ?_⟩
  rw [Heap.size_push]
  exact ⟨⟨_, counted_at, rfl⟩, q⟩
/-- item by item through the tuple at a, each told with its number in a new pair -/
def IteT (K : PySem.W.Frag) (a : Addr) : It where
  go i H := ∃ (xs : List V) (x : V), SqT K H a xs ∧ xs[i]? = some x
  yld i H v H' := ∃ T x, v = .ref T ∧ H T = none ∧ H' = upd H T (.tup [.int (i : Nat), x]) ∧ ∀ xs, SqT K H a xs → xs[i]? = some x
  stop i H := ∃ xs : List V, SqT K H a xs ∧ xs.length = i
/-- the walk stands ahead of number i -/
def StandsT (a e it : Addr) (i : Nat) (h : Heap) : Prop := (∃ old, IsEnum h e it (i : Int) old) ∧ h.IsTupleIter it a i
theorem turn_enumT {P : Program} {w : World} {K : PySem.W.Frag} {elts : List Expr} {kk : Nat} {tpos : Pos} {a e it : Addr} (h1 : a ≠ it) (h2 : a ≠ e) (h3 : e ≠ it) :
    Turn P w K (.Tuple elts kk tpos) (IteT K a) [e, it] e (StandsT a e it) where
  mem := List.mem_cons_self
  self A i s Q E st q := by
    obtain ⟨⟨_, at0⟩, _⟩ := st
    exact wpAny_pyIter_enum at0 q
  keep i h h' st k := by
    obtain ⟨⟨v, at0⟩, at1⟩ := st
    exact ⟨⟨v, k e List.mem_cons_self _ at0⟩, at1.at fun o => k it (List.mem_cons_of_mem _ List.mem_cons_self) o⟩
  obj i h st b hb := by
    obtain ⟨⟨_, at0⟩, o, at1, _, dat⟩ := st
    rcases List.mem_cons.mp hb with rfl | hb
    · exact ⟨_, at0, nofun⟩
    · cases List.mem_singleton.mp hb
      exact ⟨o, at1, fun v z => nomatch dat.symm.trans z⟩
  item X eP eW eK calm i pins s σ H E I free st now := by
    subst eP; subst eW; subst eK
    obtain ⟨xs, x, sq, hx⟩ := now
    obtain ⟨its, vals, tup, _⟩ := I.tuple sq
    obtain ⟨u, hu, ru⟩ := vals.get hx
    have W := WalksT.enumerateD (Draws.tuple (prog := X.prog) (w := X.w) (A := X.A.in1) (show X.A.in1.handled = none from I.ok.hd calm) it a h1 its.toArray) e h3
      (fun z => (List.mem_cons.mp z).elim h3 fun z => h2 (List.mem_singleton.mp z).symm) List.mem_cons_self
    refine W.item i s _ E (by rw [List.size_toArray]; exact (List.getElem?_eq_some_iff.mp hu).1) ⟨st.1, st.2, tup⟩ fun T row h' tk told hT rowT mid kept => ⟨_, rfl, W.go elts kk tpos i T _ _ E mid fun h'' st' kept' => ?_⟩
    obtain ⟨t, y, hy, rfl⟩ := told
    obtain rfl : y = u := Option.some.inj (hy.symm.trans (by rw [List.getElem?_toArray]; exact hu))
    have out := W.apart i T h' mid
    have row'' : h''.IsTuple T #[.int (i : Int) t, y] := rowT.at fun o => kept' T o out
    have J := I.turnedNew (t' := tk) (fun b o nb q => kept' b o nb (kept b o nb q)) free hT (ob := .tup [.int (i : Int), x]) ⟨by show 2 ≤ sizeLine; decide, _, .cons ⟨t, rfl⟩ (.cons ru .nil), row''⟩
    refine ⟨.ref T, _, J, rfl, ⟨T, x, rfl, I.hok.fresh hT, rfl, fun ys sq' => I.tuple_inj sq' sq ▸ hx⟩, ⟨?_, st'.2.1⟩, fun b hb => ?_⟩
    · obtain ⟨⟨v, z⟩, _⟩ := st'
      exact ⟨v, z⟩
    · rw [upd_ne fun z : b = T => out (z ▸ hb)]
      exact (free b hb).1
  done X eP eW eK calm i pins s σ H E I free st now := by
    subst eP; subst eW; subst eK
    obtain ⟨xs, sq, rfl⟩ := now
    obtain ⟨its, vals, tup, _⟩ := I.tuple sq
    obtain ⟨⟨v, at0⟩, at1⟩ := st
    rw [vals.length, ← List.size_toArray] at at0 at1
    obtain ⟨n, l, c1, c2, c3, c4⟩ := free it (List.mem_cons_of_mem _ List.mem_cons_self)
    exact wpAny_pyNext_enum_endD (Draws.tuple (prog := X.prog) (w := X.w) (A := X.A.in1) (show X.A.in1.handled = none from I.ok.hd calm) it a h1 its.toArray) at0 ⟨at1, tup⟩ fun h' k => ⟨rfl, I.turned (t' := s.toks) k n l c2 c3 c4⟩
/-- enumerate(a tuple) -/
def iEnumT (K : PySem.W.Frag) (ta : TA) : TI := fun σ H R => ta σ H fun vs H1 => ∃ a xs, vs = [.ref a] ∧ SqT K H1 a xs ∧ R (IteT K a) H1
theorem pi_enumT {X : Cx} {e : Expr} {ta : TA} {p pos tpos : Pos} {elts : List Expr} {kk : Nat} (hg : Gl X "enumerate") (hm : X.mg "enumerate" = none) (ha : PA X [e] ta) (hs : starEach [e] X.env = [(false, eval e X.env)] := by rfl) :
    PI X (.Tuple elts kk tpos) (.Call (.Name "enumerate" p) [e] [] pos) (iEnumT X.K ta) where
  run pins s σ H R I h := Call_ (ld_blt I hg hm boot_enumerate (PyProof.Rows.callWith_type1 (thn (ha.run pos pins s σ H _ I h) fun us s1 ⟨vs, H1, I1, rs, a, xs, one, sq, q⟩ => by
    subst one
    rw [Vals.ref1 rs]
    obtain ⟨its, _, tup, _⟩ := I1.tuple sq
    obtain ⟨o, lo, _⟩ := id tup
    have la := Heap.lt_size lo
    refine call_count tup (wpAny_pyIter_enum counted_at ⟨s1.heap.objs.size + 1, [s1.heap.objs.size + 1, s1.heap.objs.size], StandsT a _ _, _, H1, rfl, I1.kept (t' := s1.toks) fun _ _ => counted_kept,
      turn_enumT (Nat.ne_of_lt la) (Nat.ne_of_lt (Nat.lt_succ_of_lt la)) (Nat.succ_ne_self _), ⟨⟨_, counted_at⟩, counted_walk⟩, fun b hb => ?_, q⟩)
    have lb : s1.heap.objs.size ≤ b := (List.mem_cons.mp hb).elim (fun z => z ▸ Nat.le_succ _) fun z => (List.mem_singleton.mp z) ▸ Nat.le_refl _
    exact I1.fpOk lb (I1.hok.fresh lb)) hs rfl))
end Xci

namespace Xci
open PySem PySem.Spec PyProof.Rows L2
section
variable {P : Program} {w : World} {K : PySem.W.Frag} {mg : Str → Option Value} {base : Heap}
/-- what stands under the name x keeps the promise sp -/
structure Has (P : Program) (w : World) (K : PySem.W.Frag) (mg : Str → Option Value) (base : Heap) (x : Str) (ps : List Str) (k : Nat) (sp : Sp) : Prop where
  ex : ∃ (f : Addr) (fd : FuncData), FnOk P w K mg base CX0 k f fd ps sp ∧ mg x = some (.ref f) ∧ PySem.W.keepIn K (.ref f) = true ∧ Binds K fd ps []
end
theorem pe_callH {X : Cx} {x : Str} {ps : List Str} {k : Nat} {sp : Sp} {e : Expr} {es : List Expr} {t : TA} {p pos : Pos} (h : Has X.prog X.w X.K X.mg X.base x ps k sp) (hr : Room k X.A) (hg : Gl X x)
    (ha : PA X (e :: es) t) (hdb : (x == ("__debug__" : Str)) = false := by decide) (he : starEach (e :: es) X.env = (false, eval e X.env) :: starEach es X.env := by rfl) (hpl : (backTo pos (starEach es X.env)).any (·.1) = false := by rfl) :
    PE X (.Call (.Name x p) (e :: es) [] pos) (tCall sp [] E0 t) := by
  obtain ⟨f, fd, F, m, kp, b⟩ := h.ex
  exact pe_call F hr hg m kp b .nil pass0 ha hdb he hpl
/-- the class that stands under the name x, its __init__ keeping the promise sp -/
structure HasC (P : Program) (w : World) (K : PySem.W.Frag) (mg : Str → Option Value) (base : Heap) (x : Str) (C : Addr) (ps : List Str) (k : Nat) (sp : Sp) : Prop where
  ex : ∃ (f : Addr) (fd : FuncData), FnOk P w K mg base CX0 k f fd ps sp ∧ L2.Mk K C f ∧ mg x = some (.ref C) ∧ Binds K fd ps []
theorem pe_makeH {X : Cx} {x : Str} {C : Addr} {ps : List Str} {k : Nat} {sp : Sp} {e : Expr} {es : List Expr} {t : TA} {p pos : Pos} (h : HasC X.prog X.w X.K X.mg X.base x C ps k sp) (hr : Room (k + 1) X.A) (hg : Gl X x)
    (ha : PA X (e :: es) t) (hdb : (x == ("__debug__" : Str)) = false := by decide) (he : starEach (e :: es) X.env = (false, eval e X.env) :: starEach es X.env := by rfl) (hpl : (backTo pos (starEach es X.env)).any (·.1) = false := by rfl) :
    PE X (.Call (.Name x p) (e :: es) [] pos) (tMake C sp [] E0 t) := by
  obtain ⟨f, fd, F, M, m, b⟩ := h.ex
  exact pe_make M F hr hg m b .nil pass0 ha hdb he hpl
/-- all but what stands at a is kept -/
def Fr (a : Addr) (H H' : Hp) : Prop := ∀ b o, H b = some o → b ≠ a → H' b = some o
theorem Fr.refl (a : Addr) (H : Hp) : Fr a H H := fun _ _ h _ => h
theorem Fr.trans {a : Addr} {H H1 H2 : Hp} (f : Fr a H H1) (g : Fr a H1 H2) : Fr a H H2 := fun b o h n => g b o (f b o h n) n
theorem Fr.same {a : Addr} {H H' : Hp} (f : Same H H') : Fr a H H' := fun b o h _ => f b o h
theorem Fr.at {a : Addr} {H : Hp} {o : HO} : Fr a H (upd H a o) := fun b u h n => by rw [upd_ne n]; exact h
theorem Fr.new {a p : Addr} {H : Hp} {o : HO} (h : H p = Option.none) : Fr a H (upd H p o) := fun b u e _ => by rw [upd_ne (ne_of_none e h)]; exact e
theorem Same.new {p : Addr} {H : Hp} {o : HO} (h : H p = Option.none) : Same H (upd H p o) := fun b u e => by rw [upd_ne (ne_of_none e h)]; exact e
/-- an address that stood nowhere before, behind a frame that keeps all but a -/
theorem Fr.free {a : Addr} {H H' : Hp} (f : Fr a H H') {o : HO} (ha : H a = some o) {p : Addr} (h : H' p = Option.none) (ha' : ∃ o', H' a = some o') : H p = Option.none := by
  cases q : H p with
  | none => rfl
  | some u =>
    by_cases e : p = a
    · subst e
      obtain ⟨o', z⟩ := ha'
      rw [z] at h; cases h
    · rw [f p u q e] at h; cases h
/-- the tuples are kept -/
def TFr (H H' : Hp) : Prop := ∀ p xs, H p = some (.tup xs) → H' p = some (.tup xs)
theorem TFr.refl (H : Hp) : TFr H H := fun _ _ h => h
theorem TFr.trans {H H1 H2 : Hp} (f : TFr H H1) (g : TFr H1 H2) : TFr H H2 := fun p xs h => g p xs (f p xs h)
theorem TFr.same {H H' : Hp} (f : Same H H') : TFr H H' := fun p xs h => f p _ h
theorem TFr.new {p : Addr} {H : Hp} {o : HO} (h : H p = Option.none) : TFr H (upd H p o) := TFr.same (Same.new h)
theorem TFr.lst {p : Addr} {H : Hp} {o : HO} {ys : List V} (h : H p = some (.lst ys)) : TFr H (upd H p o) := fun q xs e => by
  rw [upd_ne (ne_of e h (by intro z; cases z))]; exact e
theorem TFr.fr {a : Addr} {H H' : Hp} {ys : List V} (h : H a = some (.lst ys)) (f : Fr a H H') : TFr H H' := fun q xs e => f q _ e (ne_of e h (by intro z; cases z))
/-- v is a tuple of xs -/
def Tup (H : Hp) (v : V) (xs : List V) : Prop := ∃ p, v = .ref p ∧ H p = some (.tup xs)
theorem Tup.keep {H H' : Hp} {v : V} {xs : List V} (f : TFr H H') (t : Tup H v xs) : Tup H' v xs := by
  obtain ⟨p, e, h⟩ := t
  exact ⟨p, e, f p xs h⟩
/-- the deck that the law draws from, and its own list at l: nothing is known of its five items but that the numbers are in bounds -/
def Deck (H : Hp) (a l : Addr) : Prop := ∃ (ns : List Int) (i c n s : Int), H a = some (.lst [.ref l, .int i, .int c, .int n, .int s]) ∧ H l = some (.lst (ns.map V.int)) ∧ a ≠ l ∧ (∀ z ∈ ns, 0 ≤ z) ∧ 0 ≤ i ∧ i ≤ (ns.length : Int) ∧ 0 ≤ c ∧ 0 ≤ s ∧ s < 2147483647
theorem Deck.is {H : Hp} {a l : Addr} (d : Deck H a l) : ∃ ys, H a = some (.lst ys) := by
  obtain ⟨ns, i, c, n, s, h, _⟩ := d
  exact ⟨_, h⟩
theorem Deck.is' {H : Hp} {a l : Addr} (d : Deck H a l) : ∃ ys, H l = some (.lst ys) := by
  obtain ⟨ns, i, c, n, s, _, h, _⟩ := d
  exact ⟨_, h⟩
theorem Deck.tfr {H H' : Hp} {a l : Addr} (d : Deck H a l) (f : Fr a H H') : TFr H H' := by
  obtain ⟨ys, h⟩ := d.is
  exact TFr.fr h f
theorem Deck.keep {H H' : Hp} {a l : Addr} (d : Deck H a l) (f : Same H H') : Deck H' a l := by
  obtain ⟨ns, i, c, n, s, h, hl, r⟩ := d
  exact ⟨ns, i, c, n, s, f _ _ h, f _ _ hl, r⟩
/-- a store at q, which is neither the deck nor its list -/
theorem Deck.put {H : Hp} {a l q : Addr} {o : HO} (d : Deck H a l) (n1 : q ≠ a) (n2 : q ≠ l) : Deck (upd H q o) a l := by
  obtain ⟨ns, i, c, n, s, h, hl, r⟩ := d
  exact ⟨ns, i, c, n, s, by rw [upd_ne n1.symm]; exact h, by rw [upd_ne n2.symm]; exact hl, r⟩
/-- q was free when the deck stood -/
theorem Deck.ne {H : Hp} {a l q : Addr} (d : Deck H a l) (h : H q = Option.none) : q ≠ a := by
  obtain ⟨ys, z⟩ := d.is
  exact (ne_of_none z h).symm
theorem Deck.ne' {H : Hp} {a l q : Addr} (d : Deck H a l) (h : H q = Option.none) : q ≠ l := by
  obtain ⟨ys, z⟩ := d.is'
  exact (ne_of_none z h).symm
/-- what is free behind a draw was free ahead of it -/
theorem Deck.free {H H' : Hp} {a l q : Addr} (d : Deck H' a l) (f : Fr a H H') (h : H' q = Option.none) : H q = Option.none := by
  have n := d.ne h
  cases e : H q with
  | none => rfl
  | some u => rw [f q u e n] at h; cases h
def spTake : Sp := fun vs H Q _ => ∃ (a l : Addr) (m : Int), vs = [.ref a, .int m] ∧ Deck H a l ∧ 0 < m ∧ m < 1073741824 ∧ ∀ (d : Int) (H' : Hp), 0 ≤ d → d < m → Deck H' a l → Fr a H H' → (∀ b, b ≠ a → H' b = H b) → Q (.int d) H'
theorem pe_gint {X : Cx} {x : Str} {i : Int} {t : Tok} {pos : Pos} (hg : Gl X x) (hm : X.mg x = some (.int i t)) (hd : (x == ("__debug__" : Str)) = false := by decide) : PE X (.Name x pos) (tC (.int i)) := pe_glob (v := .int i) hg hm ⟨t, rfl⟩ hd
theorem walk_enumT {K : PySem.W.Frag} {a : Addr} {xs : List V} : Walk (IteT K a) xs.length (fun H => SqT K H a xs) (fun i H v H' => ∃ T x, v = .ref T ∧ H T = none ∧ H' = upd H T (.tup [.int (i : Nat), x]) ∧ xs[i]? = some x) :=
  ⟨fun i H hi q => ⟨xs, xs[i], q, List.getElem?_eq_getElem hi⟩, fun H q => ⟨xs, q, rfl⟩, fun i H v H' hi q ⟨T, x, e1, e2, e3, f⟩ => ⟨T, x, e1, e2, e3, f xs q⟩⟩
theorem call_lenK {X : Cx} : CallR X (.builtin "len") (rLen X.K) := call_len
def rTupOf (K : PySem.W.Frag) : List V → Hp → VK → Prop := fun xs H Q => ∃ p ys, xs = [.ref p] ∧ ((SqL K H p ys ∧ ∀ l, H l = none → Q (.ref l) (upd H l (.tup ys))) ∨ (SqT K H p ys ∧ Q (.ref p) H))
theorem call_tupleK {X : Cx} : CallR X (.type "tuple") (rTupOf X.K) := call_tuple_of
def rListOf (K : PySem.W.Frag) : List V → Hp → VK → Prop := fun xs H Q => ∃ p ys, xs = [.ref p] ∧ (SqL K H p ys ∨ SqT K H p ys) ∧ ∀ l, H l = none → Q (.ref l) (upd H l (.lst ys))
theorem call_listK {X : Cx} : CallR X (.type "list") (rListOf X.K) := call_list_of
theorem hu64 {A : Around} {k : Nat} (hr : Room k A) : A.units + 64 < cLine := by have := hr.un; omega
/-- the names that the top leaves to the built-ins -/
structure Txt (mg : Str → Option Value) : Prop where
  len : mg "len" = none
  int : mg "int" = none
  abs : mg "abs" = none
  list : mg "list" = none
  tuple : mg "tuple" = none
  range : mg "range" = none
  min : mg "min" = none
  isinstance : mg "isinstance" = none
  enumerate : mg "enumerate" = none
  bool : mg "bool" = none
  str : mg "str" = none
  all : mg "all" = none
  any : mg "any" = none
  sum : mg "sum" = none
  max : mg "max" = none
  sorted : mg "sorted" = none
  zip : mg "zip" = none
end Xci

namespace Xci
open PySem L2
def top (i : Nat) : Stmt := PySem.Challenge.pw_sameforms_k13_whole_the_greatest_one_spe.main.body.getD i (.Pass ⟨0, 0, 0, 0⟩)
end Xci

namespace Xci
open PySem L2
/-! ### data and promises of the law's draws -/
def Sq (K : PySem.W.Frag) (H : Hp) (p : Addr) (xs : List V) : Prop := SqL K H p xs ∨ SqT K H p xs
theorem Sq.fr {K : PySem.W.Frag} {a p : Addr} {H H' : Hp} {xs : List V} (s : Sq K H p xs) (f : Fr a H H') (n : p ≠ a) : Sq K H' p xs := by
  rcases s with ((h | ⟨o, h⟩) | h) | ((h | ⟨o, h⟩) | h)
  · exact .inl (.inl (.inl (f _ _ h n)))
  · exact .inl (.inl (.inr ⟨o, f _ _ h n⟩))
  · exact .inl (.inr h)
  · exact .inr (.inl (.inl (f _ _ h n)))
  · exact .inr (.inl (.inr ⟨o, f _ _ h n⟩))
  · exact .inr (.inr h)
theorem Sq.tup {K : PySem.W.Frag} {H : Hp} {p : Addr} {xs : List V} (h : H p = some (.tup xs)) : Sq K H p xs := .inr (.inl (.inl h))
theorem Sq.lst {K : PySem.W.Frag} {H : Hp} {p : Addr} {xs : List V} (h : H p = some (.lst xs)) : Sq K H p xs := .inl (.inl (.inl h))
theorem sqT {K : PySem.W.Frag} {H : Hp} {p : Addr} {xs : List V} (h : H p = some (.tup xs)) : SqT K H p xs := .inl (.inl h)
theorem sqT_same {K : PySem.W.Frag} {H H' : Hp} {p : Addr} {xs : List V} (s : SqT K H p xs) (f : Same H H') : SqT K H' p xs := by
  rcases s with (h | ⟨o, h⟩) | h
  · exact .inl (.inl (f _ _ h))
  · exact .inl (.inr ⟨o, f _ _ h⟩)
  · exact .inr h
/-- tracked: a list or a tuple of xs at p -/
def Sq0 (H : Hp) (p : Addr) (xs : List V) : Prop := H p = some (.lst xs) ∨ H p = some (.tup xs)
theorem Sq0.fr {a p : Addr} {H H' : Hp} {xs : List V} (s : Sq0 H p xs) (f : Fr a H H') (n : p ≠ a) : Sq0 H' p xs := s.imp (fun h => f _ _ h n) (fun h => f _ _ h n)
theorem Sq0.same {p : Addr} {H H' : Hp} {xs : List V} (s : Sq0 H p xs) (f : Same H H') : Sq0 H' p xs := s.imp (fun h => f _ _ h) (fun h => f _ _ h)
theorem Sq0.put {p q : Addr} {H : Hp} {o : HO} {xs : List V} (s : Sq0 H p xs) (n : p ≠ q) : Sq0 (upd H q o) p xs := s.imp (fun h => by rw [upd_ne n]; exact h) (fun h => by rw [upd_ne n]; exact h)
theorem Sq0.sq {K : PySem.W.Frag} {p : Addr} {H : Hp} {xs : List V} (s : Sq0 H p xs) : Sq K H p xs := s.elim Sq.lst Sq.tup
theorem Sq0.ne {p q : Addr} {H : Hp} {xs : List V} (s : Sq0 H p xs) (h : H q = Option.none) : p ≠ q := s.elim (fun e => ne_of_none e h) (fun e => ne_of_none e h)
structure WordOk (z : Str) : Prop where
  lo : 1 ≤ z.length
  hi : z.length ≤ 8
  az : ∀ c ∈ z.cps.toList, 97 ≤ c ∧ c ≤ 122
structure MarksOk (n : Int) (ms : List Int) : Prop where
  up : ms.Pairwise (· < ·)
  lo : ∀ m ∈ ms, 0 ≤ m
  hi : ∀ m ∈ ms, m < n
theorem MarksOk.sub {n : Int} {ms ks : List Int} (h : MarksOk n ms) (s : ks.Sublist ms) : MarksOk n ks := ⟨h.up.sublist s, fun m q => h.lo m (s.subset q), fun m q => h.hi m (s.subset q)⟩
theorem MarksOk.le {n n' : Int} {ms : List Int} (h : MarksOk n ms) (l : n ≤ n') : MarksOk n' ms := ⟨h.up, h.lo, fun m q => by have := h.hi m q; omega⟩
/-- v is a tuple of the ints ms -/
abbrev Mk (H : Hp) (v : V) (ms : List Int) : Prop := Tup H v (ms.map V.int)
theorem Mk.keep {H H' : Hp} {v : V} {ms : List Int} (f : TFr H H') (t : Xci.Mk H v ms) : Xci.Mk H' v ms := Tup.keep f t
/-- the tuples of ints vs -/
abbrev Mks (H : Hp) (vs : List V) (cs : List (List Int)) : Prop := Paired (fun v ms => Xci.Mk H v ms) vs cs
theorem Mks.keep {H H' : Hp} {vs : List V} {cs : List (List Int)} (f : TFr H H') (t : Mks H vs cs) : Mks H' vs cs := Paired.mapP t fun _ _ h => Tup.keep f h
theorem Paired.get {α β : Type} {F : α → β → Prop} : ∀ {xs : List α} {ys : List β} {i : Nat} {x : α}, Paired F xs ys → xs[i]? = some x → ∃ y, ys[i]? = some y ∧ F x y
  | _, _, _, _, .nil, e => by simp at e
  | _, _, 0, _, .cons r _, e => by simp at e; subst e; exact ⟨_, rfl, r⟩
  | _, _, i + 1, x, .cons _ t, e => by
    obtain ⟨u, h1, h2⟩ := Paired.get (i := i) (x := x) t (by simpa using e)
    exact ⟨u, by simpa using h1, h2⟩
theorem Paired.get' {α β : Type} {F : α → β → Prop} : ∀ {xs : List α} {ys : List β} {i : Nat} {y : β}, Paired F xs ys → ys[i]? = some y → ∃ x, xs[i]? = some x ∧ F x y
  | _, _, _, _, .nil, e => by simp at e
  | _, _, 0, _, .cons r _, e => by simp at e; subst e; exact ⟨_, rfl, r⟩
  | _, _, i + 1, x, .cons _ t, e => by
    obtain ⟨u, h1, h2⟩ := Paired.get' (i := i) (y := x) t (by simpa using e)
    exact ⟨u, by simpa using h1, h2⟩
theorem Paired.app {α β : Type} {F : α → β → Prop} : ∀ {xs xs' : List α} {ys ys' : List β}, Paired F xs ys → Paired F xs' ys' → Paired F (xs ++ xs') (ys ++ ys')
  | _, _, _, _, .nil, s => s
  | _, _, _, _, .cons r t, s => .cons r (Paired.app t s)
theorem Paired.one {α β : Type} {F : α → β → Prop} {x : α} {y : β} (h : F x y) : Paired F [x] [y] := .cons h .nil
theorem Paired.take {α β : Type} {F : α → β → Prop} : ∀ {xs : List α} {ys : List β} (n : Nat), Paired F xs ys → Paired F (xs.take n) (ys.take n)
  | _, _, 0, _ => .nil
  | _, _, _ + 1, .nil => .nil
  | _, _, n + 1, .cons r t => .cons r (Paired.take n t)
theorem Paired.perm {α β : Type} {F : α → β → Prop} {xs xs' : List α} (p : xs'.Perm xs) : ∀ {ys : List β}, Paired F xs ys → ∃ ys', Paired F xs' ys' ∧ ys'.Perm ys := by
  induction p with
  | nil => intro ys h; exact ⟨ys, h, .refl _⟩
  | cons x _ ih =>
    intro ys h
    cases h with
    | cons r t =>
      obtain ⟨ys', h', p'⟩ := ih t
      exact ⟨_, .cons r h', p'.cons _⟩
  | swap x y l =>
    intro ys h
    cases h with
    | cons r t =>
      cases t with
      | cons r' t' => exact ⟨_, .cons r' (.cons r t'), .swap _ _ _⟩
  | trans _ _ ih1 ih2 =>
    intro ys h
    obtain ⟨y1, h1, p1⟩ := ih2 h
    obtain ⟨y2, h2, p2⟩ := ih1 h1
    exact ⟨y2, h2, p2.trans p1⟩
/-- the rest of a list, by the removal of one -/
theorem perm_erase {α : Type} : ∀ {xs : List α} {k : Nat} {y : α}, xs[k]? = some y → (xs.eraseIdx k ++ [y]).Perm xs
  | [], _, _, h => by simp at h
  | a :: r, 0, y, h => by
    have e : a = y := Option.some.inj h
    subst e
    exact List.perm_append_singleton _ _
  | a :: r, k + 1, y, h => by
    have ih := perm_erase (xs := r) (k := k) (y := y) h
    exact ih.cons a
def lots (ns : List Int) : List (List Int) := ns.foldl (fun acc x => acc ++ acc.map (· ++ [x])) [[]]
theorem lots_snoc (ns : List Int) (x : Int) : lots (ns ++ [x]) = lots ns ++ (lots ns).map (· ++ [x]) := by
  unfold lots
  rw [List.foldl_append]
  rfl
theorem snoc_ind {α : Type} {M : List α → Prop} (h0 : M []) (h1 : ∀ l x, M l → M (l ++ [x])) : ∀ l, M l := by
  have : ∀ l : List α, M l.reverse := by
    intro l
    induction l with
    | nil => exact h0
    | cons x l ih => rw [List.reverse_cons]; exact h1 _ _ ih
  intro l
  have q := this l.reverse
  rw [List.reverse_reverse] at q
  exact q
theorem lots_len (ns : List Int) : (lots ns).length = 2 ^ ns.length := by
  refine snoc_ind (M := fun ns => (lots ns).length = 2 ^ ns.length) rfl (fun l x ih => ?_) ns
  rw [lots_snoc, List.length_append, List.length_map, List.length_append, ih, List.length_singleton, Nat.pow_succ]
  omega
theorem lots_sub {ns ms : List Int} : ms ∈ lots ns → ms.Sublist ns := by
  refine snoc_ind (M := fun ns => ∀ ms, ms ∈ lots ns → ms.Sublist ns) (fun ms h => ?_) (fun l x ih ms h => ?_) ns ms
  · have : ms = [] := by simpa [lots] using h
    subst this
    exact .slnil
  · rw [lots_snoc] at h
    rcases List.mem_append.mp h with h | h
    · exact (ih ms h).trans (List.sublist_append_left _ _)
    · obtain ⟨k, hk, rfl⟩ := List.mem_map.mp h
      exact (ih k hk).append_right _
theorem lots_nd {ns : List Int} (h : ns.Nodup) : (lots ns).Nodup := by
  revert h
  refine snoc_ind (M := fun ns => ns.Nodup → (lots ns).Nodup) (fun _ => by decide) (fun l x ih h => ?_) ns
  obtain ⟨h1, _, h3⟩ := List.nodup_append.mp h
  rw [lots_snoc]
  refine List.nodup_append.mpr ⟨ih h1, ?_, fun a ha b hb e => ?_⟩
  · unfold List.Nodup
    rw [List.pairwise_map]
    exact (ih h1).imp fun n e => n (List.append_cancel_right e)
  · obtain ⟨k, hk, rfl⟩ := List.mem_map.mp hb
    subst e
    have : x ∈ l := (lots_sub ha).subset (by simp)
    exact h3 x this x (by simp) rfl
def spDeck (K : PySem.W.Frag) : Sp := fun vs H Q _ => ∃ (a : Addr) (ns : List Int), vs = [.ref a] ∧ SqL K H a (ns.map V.int) ∧ ns.length ≤ 63 ∧ ∀ (d l : Addr) (H' : Hp), Deck H' d l → Same H H' → Q (.ref d) H'
def spMixed (K : PySem.W.Frag) : Sp := fun vs H Q _ => ∃ (a l p : Addr) (xs : List V), vs = [.ref a, .ref p] ∧ Deck H a l ∧ Sq K H p xs ∧ xs.length ≤ 1000 ∧
  ∀ (q : Addr) (ys : List V) (H' : Hp), ys.Perm xs → H' q = some (.lst ys) → H q = Option.none → Deck H' a l → Fr a H H' → Q (.ref q) H'
def spWord : Sp := fun vs H Q _ => ∃ a l : Addr, vs = [.ref a] ∧ Deck H a l ∧ ∀ (z : Str) (H' : Hp), WordOk z → Deck H' a l → Fr a H H' → Q (.str z) H'
def spWords : Sp := fun vs H Q _ => ∃ (a l : Addr) (m : Int), vs = [.ref a, .int m] ∧ Deck H a l ∧ 0 < m ∧ m ≤ 1000 ∧
  ∀ (q : Addr) (zs : List Str) (H' : Hp), zs ≠ [] → (zs.length : Int) ≤ m → zs.Nodup → (∀ z ∈ zs, WordOk z) → H' q = some (.lst (zs.map V.str)) → H q = Option.none → Deck H' a l → Fr a H H' → Q (.ref q) H'
def spLots (K : PySem.W.Frag) : Sp := fun vs H Q _ => ∃ (p : Addr) (ns : List Int), vs = [.ref p] ∧ SqT K H p (ns.map V.int) ∧ ns.length ≤ 6 ∧
  ∀ (q : Addr) (ys : List V) (H' : Hp), H' q = some (.lst ys) → Mks H' ys (lots ns) → Same H H' → H q = Option.none → Q (.ref q) H'
structure FamOk (many : Int) (cells : List (List Int)) : Prop where
  lo : 0 ≤ many
  hi : many ≤ 6
  ne : cells ≠ []
  len : cells.length ≤ 24
  nd : cells.Nodup
  ok : ∀ c ∈ cells, MarksOk many c
def spFamily : Sp := fun vs H Q _ => ∃ a l : Addr, vs = [.ref a] ∧ Deck H a l ∧
  ∀ (v : V) (p : Addr) (many : Int) (ys : List V) (cells : List (List Int)) (H' : Hp), Tup H' v [.int many, .ref p] → H' p = some (.tup ys) → Mks H' ys cells → FamOk many cells → Deck H' a l → Fr a H H' → Q v H'
def spMarks (K : PySem.W.Frag) : Sp := fun vs H Q _ => ∃ (a l p : Addr) (ys : List V) (cells : List (List Int)), vs = [.ref a, .ref p] ∧ Deck H a l ∧ p ≠ a ∧ Sq0 H p ys ∧ Mks H ys cells ∧ cells ≠ [] ∧ cells.length ≤ 1000 ∧ (∀ c ∈ cells, MarksOk 6 c) ∧
  ∀ (v : V) (ms : List Int) (H' : Hp), Xci.Mk H' v ms → MarksOk 6 ms → Deck H' a l → Fr a H H' → Q v H'
abbrev Ent : Type := List Int × Str
def EntV (H : Hp) (v : V) (e : Ent) : Prop := ∃ u, Tup H v [u, .str e.2] ∧ Xci.Mk H u e.1
theorem EntV.keep {H H' : Hp} {v : V} {e : Ent} (f : TFr H H') (t : EntV H v e) : EntV H' v e := by
  obtain ⟨u, h, g⟩ := t
  exact ⟨u, h.keep f, Tup.keep f g⟩
structure EntOk (e : Ent) : Prop where
  ms : MarksOk 6 e.1
  w : WordOk e.2
abbrev Ents (H : Hp) (vs : List V) (es : List Ent) : Prop := Paired (fun v e => EntV H v e) vs es
theorem Ents.keep {H H' : Hp} {vs : List V} {es : List Ent} (f : TFr H H') (t : Ents H vs es) : Ents H' vs es := Paired.mapP t fun _ _ h => EntV.keep f h
def spEntries (K : PySem.W.Frag) : Sp := fun vs H Q _ => ∃ (a l p q : Addr) (ys : List V) (cells : List (List Int)) (zs : List Str) (m : Int), vs = [.ref a, .ref p, .ref q, .int m] ∧ Deck H a l ∧ p ≠ a ∧ Sq0 H p ys ∧ Mks H ys cells ∧ cells ≠ [] ∧ cells.length ≤ 1000 ∧ (∀ c ∈ cells, MarksOk 6 c) ∧
  H q = some (.lst (zs.map V.str)) ∧ q ≠ a ∧ zs ≠ [] ∧ zs.length ≤ 1000 ∧ (∀ z ∈ zs, WordOk z) ∧ 0 ≤ m ∧ m ≤ 1000 ∧
  ∀ (r : Addr) (vs' : List V) (es : List Ent) (H' : Hp), H' r = some (.tup vs') → Ents H' vs' es → (es.length : Int) ≤ m → (∀ e ∈ es, EntOk e) → Deck H' a l → Fr a H H' → Q (.ref r) H'
theorem int_of {ns : List Int} {i : Nat} {y : V} (h : (ns.map V.int)[i]? = some y) : ∃ z, ns[i]? = some z ∧ y = V.int z := by
  rw [List.getElem?_map] at h
  cases e : ns[i]? with
  | none => rw [e] at h; cases h
  | some z => rw [e] at h; exact ⟨z, rfl, (Option.some.inj h).symm⟩
theorem mod_bd (x : Int) {m : Int} (h : 0 < m) : 0 ≤ x % m ∧ x % m < m := ⟨Int.emod_nonneg _ (by omega), Int.emod_lt_of_pos _ h⟩
theorem cut63 (ns : List Int) : cutV (ns.map V.int) none (some 63) = (ns.take 63).map V.int := by
  unfold cutV
  have e0 : HT.sIx (ns.map V.int).length 0 none = 0 := rfl
  rw [e0]
  have e1 : HT.sIx (ns.map V.int).length (ns.map V.int).length (some 63) = min 63 ns.length := by
    unfold HT.sIx
    simp
    try omega
  rw [e1, List.drop_zero, List.map_take]
  simp only [Nat.sub_zero]
  rw [Nat.min_comm]
  by_cases h : ns.length ≤ 63
  · rw [Nat.min_eq_left h, List.take_of_length_le (by simp), List.take_of_length_le (by simpa using h)]
  · rw [Nat.min_eq_right (by omega)]

def inside (ms ns : List Int) : Bool := ms.all fun m => decide (m ∈ ns)
theorem asc_len {n : Int} : ∀ {ms : List Int} {lo : Int}, ms.Pairwise (· < ·) → (∀ m ∈ ms, lo ≤ m ∧ m < n) → ms.length ≤ (n - lo).toNat
  | [], _, _, _ => Nat.zero_le _
  | m :: r, lo, hp, hb => by
    obtain ⟨h1, h2⟩ := List.pairwise_cons.mp hp
    have b := hb m (by simp)
    have ih := asc_len (n := n) (ms := r) (lo := m + 1) h2 fun k hk => ⟨by have := h1 k hk; omega, (hb k (List.mem_cons_of_mem _ hk)).2⟩
    rw [List.length_cons]
    omega
theorem MarksOk.len {n : Int} {ms : List Int} (h : MarksOk n ms) : ms.length ≤ n.toNat := by
  have := asc_len (n := n) (lo := 0) h.up fun m hm => ⟨h.lo m hm, h.hi m hm⟩
  simpa using this
theorem inV_int (m : Int) (ns : List Int) : inV (.int m) (ns.map V.int) = decide (m ∈ ns) := by
  unfold inV
  rw [List.any_map]
  induction ns with
  | nil => rfl
  | cons a r ih =>
    rw [List.any_cons, ih]
    show ((a == m) || decide (m ∈ r)) = decide (m ∈ a :: r)
    by_cases h : a = m
    · subst h; simp
    · have h' : ¬ m = a := fun e => h e.symm
      simp [h, h']
theorem inV_str (m : Str) (ns : List Str) : inV (.str m) (ns.map V.str) = decide (m ∈ ns) := by
  unfold inV
  rw [List.any_map]
  induction ns with
  | nil => rfl
  | cons a r ih =>
    rw [List.any_cons, ih]
    show ((a == m) || decide (m ∈ r)) = decide (m ∈ a :: r)
    by_cases h : a = m
    · subst h; simp
    · have h' : ¬ m = a := fun e => h e.symm
      simp [h, h']
theorem flat_ints (ns : List Int) : (ns.map V.int).all flatV = true := by
  rw [List.all_map]; exact List.all_eq_true.mpr fun _ _ => rfl
theorem flat_strs (ns : List Str) : (ns.map V.str).all flatV = true := by
  rw [List.all_map]; exact List.all_eq_true.mpr fun _ _ => rfl
theorem str_of {ns : List Str} {i : Nat} {y : V} (h : (ns.map V.str)[i]? = some y) : ∃ z, ns[i]? = some z ∧ y = V.str z := by
  rw [List.getElem?_map] at h
  cases e : ns[i]? with
  | none => rw [e] at h; cases h
  | some z => rw [e] at h; exact ⟨z, rfl, (Option.some.inj h).symm⟩
def rng (n : Int) : List Int := (List.range n.toNat).map fun i => ((i : Nat) : Int)
theorem rgV_rng (n : Int) : rgV 0 n = (rng n).map V.int := by
  unfold rgV rng
  rw [List.map_map, Int.sub_zero]
  refine List.map_congr_left fun i _ => ?_
  show V.int (0 + (i : Nat)) = V.int (i : Nat)
  rw [Int.zero_add]
theorem rng_len (n : Int) : (rng n).length = n.toNat := by unfold rng; rw [List.length_map, List.length_range]
theorem rng_ok (n : Int) : MarksOk n (rng n) := by
  refine ⟨?_, fun m hm => ?_, fun m hm => ?_⟩
  · unfold rng
    rw [List.pairwise_map]
    exact List.pairwise_lt_range.imp fun h => by omega
  · obtain ⟨i, hi, rfl⟩ := List.mem_map.mp hm
    omega
  · obtain ⟨i, hi, rfl⟩ := List.mem_map.mp hm
    have := List.mem_range.mp hi
    omega
theorem MarksOk.nd {n : Int} {ms : List Int} (h : MarksOk n ms) : ms.Nodup := h.up.imp fun h e => by omega
def spIn : Sp := fun vs H Q _ => ∃ (u v : V) (ms ns : List Int), vs = [u, v] ∧ Xci.Mk H u ms ∧ Xci.Mk H v ns ∧ ms.length ≤ 1000 ∧ ∀ H', Same H H' → Q (.bl (inside ms ns)) H'
end Xci

namespace Xci
open PySem L2
/-! ### books -/
/-- the numbers that the top has written -/
structure Cst (mg : Str → Option Value) where
  t1 : Tok
  t2 : Tok
  t3 : Tok
  t4 : Tok
  LONGEST_FORM : mg "LONGEST_FORM" = some (.int 8 t1)
  MARKS : mg "MARKS" = some (.int 6 t2)
  MOST_ENTRIES : mg "MOST_ENTRIES" = some (.int 40 t3)
  MOST_WEIGHT : mg "MOST_WEIGHT" = some (.int 1000000 t4)
/-- the class Book, the tuple of the manners -/
structure BkTxt (K : PySem.W.Frag) (mg : Str → Option Value) (C aM : Addr) : Prop where
  cl : Cls K C
  nM : NoAttr K C "manner"
  nE : NoAttr K C "entries"
  nW : NoAttr K C "weights"
  mgC : mg "Book" = some (.ref C)
  mgM : mg "MANNERS" = some (.ref aM)
  man : ∀ H : Hp, SqT K H aM [.str "row", .str "within", .str "weights", .str "most"]
def bf (man : Str) (p : Addr) (wt : V) : List (Str × V) := [("manner", .str man), ("entries", .ref p), ("weights", wt)]
theorem n_me : ¬ (("manner" : Str) = "entries") := by decide +kernel
theorem n_mw : ¬ (("manner" : Str) = "weights") := by decide +kernel
theorem n_ew : ¬ (("entries" : Str) = "weights") := by decide +kernel
theorem n_em : ¬ (("entries" : Str) = "manner") := by decide +kernel
theorem n_wm : ¬ (("weights" : Str) = "manner") := by decide +kernel
theorem n_we : ¬ (("weights" : Str) = "entries") := by decide +kernel
theorem put1 (v : V) : putF "manner" v [] = [(("manner" : Str), v)] := rfl
theorem put2 (v u : V) : putF "entries" u [(("manner" : Str), v)] = [(("manner" : Str), v), (("entries" : Str), u)] := by
  show (if ("manner" : Str) = "entries" then _ else (("manner" : Str), v) :: putF "entries" u []) = _
  rw [if_neg n_me]; rfl
theorem put3 (v u x : V) : putF "weights" x [(("manner" : Str), v), (("entries" : Str), u)] = [(("manner" : Str), v), (("entries" : Str), u), (("weights" : Str), x)] := by
  show (if ("manner" : Str) = "weights" then _ else (("manner" : Str), v) :: (if ("entries" : Str) = "weights" then _ else (("entries" : Str), u) :: putF "weights" x [])) = _
  rw [if_neg n_mw, if_neg n_ew]; rfl
theorem bf_manner (man : Str) (p : Addr) (wt : V) : (bf man p wt).lookup ("manner" : Str) = some (.str man) := by
  unfold bf
  rw [List.lookup_cons, show ((Str.ofString "manner" : Str) == Str.ofString "manner") = true from by decide +kernel]
theorem bf_entries (man : Str) (p : Addr) (wt : V) : (bf man p wt).lookup ("entries" : Str) = some (.ref p) := by
  unfold bf
  rw [List.lookup_cons, show ((Str.ofString "entries" : Str) == Str.ofString "manner") = false from by decide +kernel]
  rfl
theorem bf_weights (man : Str) (p : Addr) (wt : V) : (bf man p wt).lookup ("weights" : Str) = some wt := by
  unfold bf
  rw [List.lookup_cons, show ((Str.ofString "weights" : Str) == Str.ofString "manner") = false from by decide +kernel, List.lookup_cons, show ((Str.ofString "weights" : Str) == Str.ofString "entries") = false from by decide +kernel]
  rfl
def BookAt (C : Addr) (H : Hp) (b : Addr) (man : Str) (p : Addr) (wt : V) : Prop := ∃ dx, H b = some (.ins C dx (bf man p wt))
/-- the weights that go with the manner -/
def WtOk (H : Hp) (man : Str) (wt : V) : Prop := (man ≠ "weights" ∧ wt = .non) ∨ (man = "weights" ∧ ∃ ws : List Int, Xci.Mk H wt ws ∧ ws.length = 6 ∧ ∀ x ∈ ws, 0 ≤ x ∧ x ≤ 1000000)
theorem WtOk.keep {H H' : Hp} {man : Str} {wt : V} (f : TFr H H') (h : WtOk H man wt) : WtOk H' man wt := by
  rcases h with h | ⟨e, ws, m, r⟩
  · exact .inl h
  · exact .inr ⟨e, ws, Tup.keep f m, r⟩
def Man (man : Str) : Prop := man = "row" ∨ man = "within" ∨ man = "weights" ∨ man = "most"
def spIsInteger : Sp := fun vs H Q _ => ∃ i : Int, vs = [.int i] ∧ Q (.bl true) H
def spBetween : Sp := fun vs H Q _ => ∃ lo hi x : Int, vs = [.int lo, .int hi, .int x] ∧ Q (.bl (decide (lo ≤ x ∧ x ≤ hi))) H
def spIsCell : Sp := fun vs H Q _ => ∃ (n : Int) (v : V) (ms : List Int), vs = [.int n, v] ∧ Xci.Mk H v ms ∧ MarksOk n ms ∧ Q (.bl true) H
def spIsForm : Sp := fun vs H Q _ => ∃ z : Str, vs = [.str z] ∧ WordOk z ∧ Q (.bl true) H
def spLies : Sp := fun vs H Q _ => ∃ (u v : V) (ms ns : List Int), vs = [u, v] ∧ Xci.Mk H u ms ∧ Xci.Mk H v ns ∧ Q (.bl (inside ms ns)) H
def spIsEntry : Sp := fun vs H Q _ => ∃ (v : V) (e : Ent), vs = [v] ∧ EntV H v e ∧ EntOk e ∧ Q (.bl true) H
def spAreEntries : Sp := fun vs H Q _ => ∃ (p : Addr) (ys : List V) (es : List Ent), vs = [.ref p] ∧ H p = some (.tup ys) ∧ Ents H ys es ∧ (∀ e ∈ es, EntOk e) ∧ es.length ≤ 40 ∧ Q (.bl true) H
def spAreWeights : Sp := fun vs H Q _ => ∃ (man : Str) (wt : V), vs = [.str man, wt] ∧ WtOk H man wt ∧ Q (.bl true) H
def spBook (C : Addr) : Sp := fun vs H Q _ => ∃ (x dx : Addr) (man : Str) (p : Addr) (wt : V) (ys : List V) (es : List Ent), vs = [.ref x, .str man, .ref p, wt] ∧ H x = some (.ins C dx []) ∧ Man man ∧ WtOk H man wt ∧ H p = some (.tup ys) ∧ Ents H ys es ∧ (∀ e ∈ es, EntOk e) ∧ es.length ≤ 40 ∧
  ∀ H' : Hp, BookAt C H' x man p wt → (∀ b o, H b = some o → b ≠ x → H' b = some o) → Q .non H'
/-- the entries that fit a cell, by their numbers -/
def fitP (es : List Ent) (ms : List Int) (i : Nat) : Bool := match es[i]? with
  | some e => inside e.1 ms
  | none => false
def fitN (es : List Ent) (ms : List Int) : List Nat := (List.range es.length).filter (fitP es ms)
def nat2 (js : List Nat) : List Int := js.map fun j => ((j : Nat) : Int)
def spFits (K : PySem.W.Frag) : Sp := fun vs H Q _ => ∃ (p : Addr) (v : V) (ys : List V) (es : List Ent) (ms : List Int), vs = [.ref p, v] ∧ H p = some (.tup ys) ∧ Ents H ys es ∧ (∀ e ∈ es, EntOk e) ∧ es.length ≤ 1000 ∧ Xci.Mk H v ms ∧
  ∀ (q : Addr) (H' : Hp), H' q = some (.lst ((nat2 (fitN es ms)).map V.int)) → Same H H' → Q (.ref q) H'
def spFitting (C : Addr) : Sp := fun vs H Q _ => ∃ (b p : Addr) (man : Str) (wt v : V) (ys : List V) (es : List Ent) (ms : List Int), vs = [.ref b, v] ∧ BookAt C H b man p wt ∧ H p = some (.tup ys) ∧ Ents H ys es ∧ (∀ e ∈ es, EntOk e) ∧ es.length ≤ 40 ∧ Xci.Mk H v ms ∧ MarksOk 6 ms ∧
  ∀ (q : Addr) (H' : Hp), H' q = some (.tup ((nat2 (fitN es ms)).map V.int)) → Same H H' → Q (.ref q) H'
def hd1 : List Nat → V
  | [] => .non
  | j :: _ => .int (j : Int)
def spSpeakingRow (C : Addr) : Sp := fun vs H Q _ => ∃ (b p q : Addr) (wt : V) (js : List Nat), vs = [.ref b, .ref q] ∧ BookAt C H b "row" p wt ∧ H q = some (.tup ((nat2 js).map V.int)) ∧ Q (hd1 js) H
def spk : List Nat → List V
  | [] => [.str "none"]
  | j :: _ => [.str "entry", .int (j : Int)]
def spSpeakerRow (C : Addr) : Sp := fun vs H Q _ => ∃ (b p : Addr) (wt v : V) (ys : List V) (es : List Ent) (ms : List Int), vs = [.ref b, v] ∧ BookAt C H b "row" p wt ∧ H p = some (.tup ys) ∧ Ents H ys es ∧ (∀ e ∈ es, EntOk e) ∧ es.length ≤ 40 ∧ Xci.Mk H v ms ∧ MarksOk 6 ms ∧
  ∀ (u : V) (H' : Hp), Tup H' u (spk (fitN es ms)) → Same H H' → Q u H'
def spSpeaksRow (K : PySem.W.Frag) : Sp := fun vs H Q _ => ∃ (p : Addr) (v : V) (ys : List V) (es : List Ent) (ms : List Int), vs = [.str "row", .ref p, .non, v] ∧ H p = some (.tup ys) ∧ Ents H ys es ∧ (∀ e ∈ es, EntOk e) ∧ es.length ≤ 1000 ∧ Xci.Mk H v ms ∧
  ∀ (u : V) (H' : Hp), Tup H' u (spk (fitN es ms)) → Same H H' → Q u H'
def flat0 : V → Bool
  | .int _ => true
  | .str _ => true
  | _ => false
def spLike0 : Sp := fun vs H Q _ => ∃ x : V, vs = [x, x] ∧ flat0 x = true ∧ ∀ H', Same H H' → Q (.bl true) H'
def spLike1 : Sp := fun vs H Q _ => ∃ (u v : V) (xs : List V), vs = [u, v] ∧ Tup H u xs ∧ Tup H v xs ∧ xs.all flat0 = true ∧ xs.length ≤ 1000 ∧ ∀ H', Same H H' → Q (.bl true) H'
theorem fit_take (es : List Ent) (ms : List Int) (i : Nat) : (List.range (i + 1)).filter (fitP es ms) = (List.range i).filter (fitP es ms) ++ if fitP es ms i = true then [i] else [] := by
  rw [List.range_succ, List.filter_append, List.filter_cons, List.filter_nil]
theorem nat2_app (xs ys : List Nat) : nat2 (xs ++ ys) = nat2 xs ++ nat2 ys := List.map_append
theorem fitP_at {es : List Ent} {ms : List Int} {i : Nat} {e : Ent} (h : es[i]? = some e) : fitP es ms i = inside e.1 ms := by unfold fitP; rw [h]
theorem fit_len (es : List Ent) (ms : List Int) (i : Nat) : (nat2 ((List.range i).filter (fitP es ms))).length ≤ i := by
  unfold nat2
  rw [List.length_map]
  exact Nat.le_trans (List.length_filter_le _ _) (by rw [List.length_range]; exact Nat.le_refl _)
theorem isi_tl {K : PySem.W.Frag} {a : String} (h1 : kitB a "tuple" = some false) (h2 : kitB a "list" = some false) : PySem.W.kitAny K (.type a) [.type "tuple", .type "list"] = some false :=
  kitAny_cons (b := false) (kit_ty h1) (fun _ => kitAny_cons (b := false) (kit_ty h2) (fun _ => kitAny_nil) (fun h => by cases h)) (fun h => by cases h)
theorem isi_tup {K : PySem.W.Frag} : PySem.W.kitAny K (.type "tuple") [.type "tuple", .type "list"] = some true :=
  kitAny_cons (b := true) (kit_ty (by decide +kernel)) (fun h => by cases h) (fun _ => rfl)
def toD : V → PyData
  | .int i => .int i
  | .str x => .str x
  | _ => .none
theorem dp_one {K : PySem.W.Frag} {H : Hp} {x : V} (h : flat0 x = true) : Dp K H x (toD x) := by
  cases x with
  | int i => exact .int i
  | str z => exact .str z
  | non => cases h
  | bl _ => cases h
  | byt _ => cases h
  | flt _ => cases h
  | ref _ => cases h
  | ty _ => cases h
theorem dp_all {K : PySem.W.Frag} {H : Hp} : ∀ {xs : List V}, xs.all flat0 = true → DpAll K H xs (xs.map toD)
  | [], _ => .nil
  | x :: r, h => by
    rw [List.all_cons, Bool.and_eq_true] at h
    exact .cons (dp_one h.1) (dp_all h.2)
theorem dp_tup {K : PySem.W.Frag} {H : Hp} {v : V} {xs : List V} (t : Tup H v xs) (h : xs.all flat0 = true) : Dp K H v (.tuple (xs.map toD)) := by
  obtain ⟨p, rfl, hp⟩ := t
  exact .tup (sqT hp) (dp_all h)
theorem sh1 : SeqAt.shaped (.tuple [.str "none"]) = true := by decide +kernel
theorem sh2 (i : Int) : SeqAt.shaped (.tuple [.str "entry", .int i]) = true := by
  have h : PyData.canLay0 (.str "entry") = true := by decide +kernel
  simp [SeqAt.shaped, PyData.canLay0, PyData.canLayAll0, PyData.depth, PyData.depthAll]
  simp [PyData.canLay0] at h
  exact h
theorem eqv1 (z : Str) : PyData.eqv (.tuple [.str z]) (.tuple [.str z]) = true := by
  simp [PyData.eqv, PyData.eqvAll]
theorem eqv2 (z : Str) (i j : Int) : PyData.eqv (.tuple [.str z, .int i]) (.tuple [.str z, .int j]) = decide (i = j) := by
  simp [PyData.eqv, PyData.eqvAll]
  try rw [Bool.eq_iff_iff]; simp

theorem fit_cons (e : Ent) (es : List Ent) (ms : List Int) : fitN (e :: es) ms = (if inside e.1 ms = true then [0] else []) ++ (fitN es ms).map (· + 1) := by
  unfold fitN
  rw [List.length_cons, List.range_succ_eq_map, List.filter_cons, List.filter_map]
  have h0 : fitP (e :: es) ms 0 = inside e.1 ms := rfl
  have h1 : (fitP (e :: es) ms ∘ Nat.succ) = fitP es ms := rfl
  rw [h0, h1]
  split <;> rfl
theorem fit_snoc (e : Ent) (es : List Ent) (ms : List Int) : fitN (es ++ [e]) ms = fitN es ms ++ (if inside e.1 ms = true then [es.length] else []) := by
  unfold fitN
  rw [List.length_append, List.length_singleton, List.range_succ, List.filter_append]
  have h0 : fitP (es ++ [e]) ms es.length = inside e.1 ms := by
    unfold fitP
    rw [List.getElem?_append_right (Nat.le_refl _), Nat.sub_self]
    rfl
  rw [List.filter_cons, List.filter_nil, h0]
  congr 1
  refine List.filter_congr fun i hi => ?_
  unfold fitP
  rw [List.getElem?_append_left (List.mem_range.mp hi)]
theorem cat_of {K : PySem.W.Frag} {H : Hp} {xs ys : List V} {a b : Addr} {Q : V → Hp → Prop} (ha : H a = some (.tup xs)) (hb : H b = some (.tup ys)) (hl : xs.length + ys.length ≤ sizeLine)
    (G : ∀ t H', H' t = some (.tup (xs ++ ys)) → Same H H' → Q (.ref t) H') : rCatA K (.ref a) (.ref b) H Q := by
  refine ⟨a, b, xs, ys, rfl, rfl, sqT ha, sqT hb, hl, fun e => ?_, fun _ e => ?_, fun _ _ p hp => ?_⟩
  · subst e
    exact G b H hb (Same.refl H)
  · subst e
    exact G a H (by rw [List.append_nil]; exact ha) (Same.refl H)
  · exact G p _ upd_same (Same.new hp)
theorem spk_flat (js : List Nat) : (spk js).all flat0 = true := by cases js <;> rfl
theorem spk_len (js : List Nat) : (spk js).length ≤ 1000 := by
  cases js with
  | nil => exact (by decide : 1 ≤ 1000)
  | cons j r => exact (by decide : 2 ≤ 1000)
theorem spk_sh (js : List Nat) : SeqAt.shaped (.tuple ((spk js).map toD)) = true := by
  cases js with
  | nil => exact sh1
  | cons j r => exact sh2 _
theorem spk_eqv (js : List Nat) : PyData.eqv (.tuple ((spk js).map toD)) (.tuple ((spk js).map toD)) = true := by
  cases js with
  | nil => exact eqv1 _
  | cons j r =>
    show PyData.eqv (.tuple [.str "entry", .int (j : Int)]) (.tuple [.str "entry", .int (j : Int)]) = true
    rw [eqv2]
    exact decide_eq_true rfl
theorem Same.tfr {H H' : Hp} (f : Same H H') : TFr H H' := TFr.same f
end Xci

namespace Xci
open PySem L2
/-! ### who speaks, by a relation «beats» -/
inductive Res where
  | none
  | ent (j : Nat)
  | qua (l : List Nat)
/-- n is in js and beats all others -/
def Win (js : List Nat) (beat : Nat → Nat → Bool) (n : Nat) : Prop := n ∈ js ∧ ∀ o ∈ js, o ≠ n → beat n o = true
structure Beat (beat : Nat → Nat → Bool) : Prop where
  irr : ∀ n, beat n n = false
  asy : ∀ n o, beat n o = true → beat o n = false
def winC (js : List Nat) (beat : Nat → Nat → Bool) (n : Nat) : Bool := decide ((js.filter (beat n)).length + 1 = js.length)
def maxB (js : List Nat) (beat : Nat → Nat → Bool) (n : Nat) : Bool := !js.any fun o => beat o n
def lawRes (js : List Nat) (beat : Nat → Nat → Bool) : Res :=
  if js = [] then .none else match js.find? (winC js beat) with
    | some n => .ent n
    | none => .qua (js.filter (maxB js beat))
theorem filt_add {α : Type} (p : α → Bool) : ∀ l : List α, (l.filter p).length + (l.filter fun x => !p x).length = l.length
  | [] => rfl
  | x :: r => by
    have ih := filt_add p r
    rw [List.filter_cons, List.filter_cons]
    cases h : p x
    · simp only [Bool.not_false, if_true, Bool.false_eq_true, if_false, List.length_cons]
      omega
    · simp only [Bool.not_true, if_true, Bool.false_eq_true, if_false, List.length_cons]
      omega
theorem filt_one {α : Type} [DecidableEq α] {p : α → Bool} {l : List α} {n : α} (hn : l.Nodup) (hm : n ∈ l) (hp : p n = true) : (l.filter p).length = 1 ↔ ∀ o ∈ l, o ≠ n → p o = false := by
  constructor
  · intro h o ho hne
    cases q : p o with
    | false => rfl
    | true =>
      obtain ⟨x, hx⟩ := List.length_eq_one_iff.mp h
      have h1 : n ∈ l.filter p := List.mem_filter.mpr ⟨hm, hp⟩
      have h2 : o ∈ l.filter p := List.mem_filter.mpr ⟨ho, q⟩
      rw [hx] at h1 h2
      rw [List.mem_singleton] at h1 h2
      exact absurd (h2.trans h1.symm) hne
  · intro h
    have nd : (l.filter p).Nodup := List.Sublist.nodup List.filter_sublist hn
    have h1 : n ∈ l.filter p := List.mem_filter.mpr ⟨hm, hp⟩
    have h2 : ∀ o ∈ l.filter p, o = n := fun o ho => by
      obtain ⟨a, b⟩ := List.mem_filter.mp ho
      by_cases e : o = n
      · exact e
      · rw [h o a e] at b; cases b
    match hl : l.filter p with
    | [] => rw [hl] at h1; cases h1
    | [x] => rfl
    | x :: y :: r =>
      rw [hl] at h2 nd
      have e1 := h2 x (by simp)
      have e2 := h2 y (by simp)
      rw [e1, e2] at nd
      exact absurd (by simp) (List.nodup_cons.mp nd).1
theorem winC_iff {js : List Nat} {beat : Nat → Nat → Bool} (B : Beat beat) (hn : js.Nodup) {n : Nat} (hm : n ∈ js) : winC js beat n = true ↔ Win js beat n := by
  unfold winC
  rw [decide_eq_true_iff]
  have h1 := filt_add (beat n) js
  have h2 := filt_one (p := fun x => !beat n x) hn hm (by simp [B.irr])
  constructor
  · intro h
    refine ⟨hm, fun o ho hne => ?_⟩
    have := h2.mp (by omega) o ho hne
    simpa using this
  · intro h
    have := h2.mpr fun o ho hne => by simp [h.2 o ho hne]
    omega
theorem Win.uniq {js : List Nat} {beat : Nat → Nat → Bool} (B : Beat beat) {n m : Nat} (h1 : Win js beat n) (h2 : Win js beat m) : n = m := by
  by_cases e : n = m
  · exact e
  · have a := h1.2 m h2.1 (fun q => e q.symm)
    have b := h2.2 n h1.1 e
    rw [B.asy _ _ a] at b
    cases b
theorem lawRes_nil (beat : Nat → Nat → Bool) : lawRes [] beat = .none := rfl
theorem lawRes_ent {js : List Nat} {beat : Nat → Nat → Bool} (B : Beat beat) (hn : js.Nodup) {n : Nat} (h : Win js beat n) : lawRes js beat = .ent n := by
  unfold lawRes
  rw [if_neg (by intro e; rw [e] at h; exact absurd h.1 (by simp))]
  cases q : js.find? (winC js beat) with
  | none =>
    have := List.find?_eq_none.mp q n h.1
    exact absurd ((winC_iff B hn h.1).mpr h) this
  | some m =>
    have h1 := List.find?_some q
    have h2 := List.mem_of_find?_eq_some q
    have e := Win.uniq B h ((winC_iff B hn h2).mp h1)
    rw [e]
theorem lawRes_qua {js : List Nat} {beat : Nat → Nat → Bool} (B : Beat beat) (hn : js.Nodup) (hne : js ≠ []) (h : ∀ n, ¬ Win js beat n) : lawRes js beat = .qua (js.filter (maxB js beat)) := by
  unfold lawRes
  rw [if_neg hne]
  cases q : js.find? (winC js beat) with
  | none => rfl
  | some m =>
    have h1 := List.find?_some q
    have h2 := List.mem_of_find?_eq_some q
    exact absurd ((winC_iff B hn h2).mp h1) (h m)
theorem lawRes_cases {js : List Nat} {beat : Nat → Nat → Bool} (B : Beat beat) (hn : js.Nodup) : (js = [] ∧ lawRes js beat = .none) ∨ (∃ n, Win js beat n ∧ lawRes js beat = .ent n) ∨ (js ≠ [] ∧ (∀ n, ¬ Win js beat n) ∧ lawRes js beat = .qua (js.filter (maxB js beat))) := by
  by_cases e : js = []
  · exact .inl ⟨e, by rw [e]; rfl⟩
  · by_cases h : ∃ n, Win js beat n
    · obtain ⟨n, h⟩ := h
      exact .inr (.inl ⟨n, h, lawRes_ent B hn h⟩)
    · have h' : ∀ n, ¬ Win js beat n := fun n q => h ⟨n, q⟩
      exact .inr (.inr ⟨e, h', lawRes_qua B hn e h'⟩)
/-- the same relation, the same result -/
theorem lawRes_congr {js : List Nat} {b1 b2 : Nat → Nat → Bool} (h : ∀ n ∈ js, ∀ o ∈ js, b1 n o = b2 n o) : lawRes js b1 = lawRes js b2 := by
  have e1 : ∀ n ∈ js, winC js b1 n = winC js b2 n := fun n hn => by
    unfold winC
    rw [List.filter_congr (h n hn)]
  have e2 : ∀ n ∈ js, maxB js b1 n = maxB js b2 n := fun n hn => by
    unfold maxB
    congr 1
    rw [Bool.eq_iff_iff, List.any_eq_true, List.any_eq_true]
    exact ⟨fun ⟨o, ho, q⟩ => ⟨o, ho, by rw [← h o ho n hn]; exact q⟩, fun ⟨o, ho, q⟩ => ⟨o, ho, by rw [h o ho n hn]; exact q⟩⟩
  have e3 : js.find? (winC js b1) = js.find? (winC js b2) := by
    have : ∀ l : List Nat, (∀ n ∈ l, winC js b1 n = winC js b2 n) → l.find? (winC js b1) = l.find? (winC js b2) := by
      intro l
      induction l with
      | nil => intro _; rfl
      | cons x r ih =>
        intro hl
        rw [List.find?_cons, List.find?_cons, hl x (by simp), ih fun n hn => hl n (List.mem_cons_of_mem _ hn)]
    exact this js e1
  unfold lawRes
  rw [e3, List.filter_congr e2]
/-- what the permuted book says -/
inductive Turned (g : Nat → Nat) : Res → Res → Prop
  | none : Turned g .none .none
  | ent (i : Nat) : Turned g (.ent i) (.ent (g i))
  | qua (l' l : List Nat) : (l'.map g).Perm l → Turned g (.qua l') (.qua l)
theorem lawRes_turned {js js' : List Nat} {beat beat' : Nat → Nat → Bool} {g : Nat → Nat} (B : Beat beat) (B' : Beat beat') (hn : js.Nodup) (hp : (js'.map g).Perm js) (hb : ∀ i ∈ js', ∀ o ∈ js', beat' i o = beat (g i) (g o)) : Turned g (lawRes js' beat') (lawRes js beat) := by
  have nd1 : (js'.map g).Nodup := hp.nodup_iff.mpr hn
  have nd' : js'.Nodup := (List.pairwise_map.mp nd1).imp fun h e => h (congrArg g e)
  have inj : ∀ i ∈ js', ∀ o ∈ js', g i = g o → i = o := fun i hi o ho e => by
    obtain ⟨a, ha⟩ := List.getElem?_of_mem hi
    obtain ⟨b, hb⟩ := List.getElem?_of_mem ho
    have q1 : (js'.map g)[a]? = some (g i) := by rw [List.getElem?_map, ha]; rfl
    have q2 : (js'.map g)[b]? = some (g i) := by rw [List.getElem?_map, hb, e]; rfl
    have := nd_ix nd1 q1 q2
    subst this
    exact Option.some.inj (ha.symm.trans hb)
  rcases lawRes_cases B' nd' with ⟨e, r⟩ | ⟨n, h, r⟩ | ⟨e, h, r⟩
  · subst e
    have : js = [] := by
      have := hp.length_eq
      exact List.eq_nil_of_length_eq_zero this.symm
    subst this
    rw [r, lawRes_nil]
    exact .none
  · rw [r, lawRes_ent B hn (n := g n)]
    · exact .ent n
    · refine ⟨hp.subset (List.mem_map_of_mem h.1), fun o ho hne => ?_⟩
      obtain ⟨i, hi, rfl⟩ := List.mem_map.mp (hp.symm.subset ho)
      rw [← hb n h.1 i hi]
      exact h.2 i hi fun e => hne (by rw [e])
  · have hne : js ≠ [] := fun e' => e (by
      rw [e'] at hp
      have := hp.length_eq
      rw [List.length_map] at this
      exact List.eq_nil_of_length_eq_zero this)
    rw [r, lawRes_qua B hn hne fun m hm => ?_]
    · refine .qua _ _ ?_
      have e1 : js'.filter (maxB js' beat') = js'.filter (fun i => maxB js beat (g i)) := by
        refine List.filter_congr fun i hi => ?_
        unfold maxB
        congr 1
        rw [Bool.eq_iff_iff, List.any_eq_true, List.any_eq_true]
        constructor
        · rintro ⟨o, ho, q⟩
          exact ⟨g o, hp.subset (List.mem_map_of_mem ho), by rw [← hb o ho i hi]; exact q⟩
        · rintro ⟨o, ho, q⟩
          obtain ⟨k, hk, rfl⟩ := List.mem_map.mp (hp.symm.subset ho)
          exact ⟨k, hk, by rw [hb k hk i hi]; exact q⟩
      rw [e1]
      have e2 : (js'.filter (fun i => maxB js beat (g i))).map g = (js'.map g).filter (maxB js beat) := by
        rw [List.filter_map]
        rfl
      rw [e2]
      exact hp.filter _
    · obtain ⟨i, hi, rfl⟩ := List.mem_map.mp (hp.symm.subset hm.1)
      refine h i ⟨hi, fun o ho hne => ?_⟩
      rw [hb i hi o ho]
      exact hm.2 (g o) (hp.subset (List.mem_map_of_mem ho)) fun e => hne (inj _ ho _ hi e)
end Xci

namespace Xci
open PySem PySem.Spec PyProof.Rows L2
/-- the tuple at a and the list at b as they stand at each turn, their items in new pairs -/
def ItzM (K : PySem.W.Frag) (a b : Addr) : It :=
  ⟨fun i H => ∃ (xs ys : List V) (x y : V), (SqT K H a xs ∧ SqL K H b ys) ∧ xs[i]? = some x ∧ ys[i]? = some y,
    fun i H v H' => ∃ T x y, v = .ref T ∧ (H T = none ∧ H' = upd H T (.tup [x, y])) ∧ (∀ xs, SqT K H a xs → xs[i]? = some x) ∧ ∀ ys, SqL K H b ys → ys[i]? = some y,
    fun i H => ∃ xs ys : List V, (SqT K H a xs ∧ SqL K H b ys) ∧ xs.length = ys.length ∧ i = xs.length⟩
/-- the state of such a zip at its i-th turn -/
def ZSt (z TI TO i1 i2 a b : Addr) (i : Nat) (h : Heap) : Prop := IsZip h z TI TO .none ∧ IsTupOf2 h TI (.ref i1) (.ref i2) ∧ (∃ p q, IsTupOf2 h TO p q) ∧ h.IsTupleIter i1 a i ∧ h.IsListIter i2 b i
theorem five {c z TI TO i1 i2 : Addr} (h : c ∈ [z, TI, TO, i1, i2]) : c = z ∨ c = TI ∨ c = TO ∨ c = i1 ∨ c = i2 := by simpa using h
theorem ZSt.low {z TI TO i1 i2 a b : Addr} {i : Nat} {h : Heap} (st : ZSt z TI TO i1 i2 a b i h) : ∀ c ∈ [z, TI, TO, i1, i2], c < h.objs.size := by
  obtain ⟨q1, q2, ⟨_, _, q3⟩, ⟨_, q4, _⟩, ⟨_, q5, _⟩⟩ := st
  intro c hc
  rcases five hc with e | e | e | e | e <;> subst e
  · exact Heap.lt_size q1
  · exact Heap.lt_size q2
  · exact Heap.lt_size q3
  · exact Heap.lt_size q4
  · exact Heap.lt_size q5
theorem turn_zipM {P : Program} {w : World} {K : PySem.W.Frag} {elts : List Expr} {kk : Nat} {tpos : Pos} {a b z TI TO i1 i2 : Addr} (S : ZipSep2 z TI TO i1 i2 [i1, a] [i2, b]) (n1 : a ≠ i1) (n2 : b ≠ i2) :
    Turn P w K (.Tuple elts kk tpos) (ItzM K a b) [z, TI, TO, i1, i2] z (ZSt z TI TO i1 i2 a b) where
  mem := by simp
  self := fun _ _ _ _ _ st q => wpAny_pyIter_zip st.1 q
  keep := fun i h h' st k => by
    obtain ⟨q1, q2, ⟨p, q, q3⟩, q4, q5⟩ := st
    exact ⟨k _ (by simp) _ q1, k _ (by simp) _ q2, ⟨p, q, k _ (by simp) _ q3⟩, q4.at fun o e => k _ (by simp) o e, q5.at fun o e => k _ (by simp) o e⟩
  obj := fun i h st c hc => by
    obtain ⟨q1, q2, ⟨_, _, q3⟩, ⟨o4, q4, _, d4⟩, ⟨o5, q5, _, d5⟩⟩ := st
    rcases five hc with e | e | e | e | e <;> subst e
    · exact ⟨_, q1, fun v q => nomatch q⟩
    · exact ⟨_, q2, fun v q => nomatch q⟩
    · exact ⟨_, q3, fun v q => nomatch q⟩
    · exact ⟨o4, q4, fun v q => by rw [d4] at q; cases q⟩
    · exact ⟨o5, q5, fun v q => by rw [d5] at q; cases q⟩
  item := by
    intro X hP hw hK hc i pins s σ H E I hf st hg
    subst hP hw hK
    have low := st.low
    obtain ⟨q1, q2, ⟨p, q, q3⟩, q4, q5⟩ := st
    obtain ⟨xs, ys, x, y, ⟨hx, hy⟩, ex, ey⟩ := hg
    obtain ⟨us, rx, tx, _⟩ := I.tuple hx
    obtain ⟨vs, ry, ty, _⟩ := I.list hy
    obtain ⟨u, eu, ru⟩ := rx.get ex
    obtain ⟨v, ev, rv⟩ := ry.get ey
    have lu : i < us.toArray.size := by simpa using (List.getElem?_eq_some_iff.mp eu).1
    have lv : i < vs.toArray.size := by simpa using (List.getElem?_eq_some_iff.mp ev).1
    have calm : X.A.in1.handled = none := I.ok.hd hc
    refine wpAny_pyNext_zipD2_item (prog := X.prog) (w := X.w) (A := X.A) S (Draws.tuple calm i1 a n1 us.toArray) (Draws.list calm i2 b n2 vs.toArray) q1 q2 q3 ⟨q4, tx⟩ ⟨q5, ty.isList⟩ lu lv fun u' v' h' tk eu' ev' z' TO' s1' s2' hT hsz hk => ?_
    obtain rfl : u' = u := Option.some.inj (eu'.symm.trans (by simpa using eu))
    obtain rfl : v' = v := Option.some.inj (ev'.symm.trans (by simpa using ev))
    refine ⟨_, rfl, wpAny_letOwnedTupleGo_zip (s := { s with heap := h', toks := tk }) z' fun h'' z'' sb => ?_⟩
    have zl : z < s.heap.objs.size := low z (by simp)
    have top : h''.get? s.heap.objs.size = some { cls := .type "tuple", data := .seq #[u', v'] } := (sb.2 _ (Nat.ne_of_gt zl)).trans hT
    have made : ObjOk X.prog X.w (upd H s.heap.objs.size (.tup [x, y])) h'' s.heap.objs.size (.tup [x, y]) := ⟨by show 2 ≤ sizeLine; decide, [u', v'], .cons ru (.cons rv .nil), _, top, rfl, _, rfl⟩
    have all : ∀ c o, c ∉ [z, TI, TO, i1, i2] → s.heap.get? c = some o → h''.get? c = some o := fun c o hb e =>
      (sb.2 c fun e' => hb (by simp [e'])).trans (hk c o (fun e' => hb (by simp [e'])) (fun e' => hb (by simp [e'])) (fun e' => hb (by simp [e'])) (fun e' => hb (by simp [e'])) e)
    have I1 : Inv X pins σ (upd H s.heap.objs.size (.tup [x, y])) { s with heap := h'', toks := tk } := I.turnedNew (ch := [z, TI, TO, i1, i2]) all hf (Nat.le_refl _) made
    refine ⟨.ref s.heap.objs.size, _, I1, rfl, ⟨_, x, y, rfl, ⟨I.hok.fresh (Nat.le_refl _), rfl⟩, fun l hl => by rw [I.tuple_inj hl hx]; exact ex, fun l hl => by rw [I.list_inj hl hy]; exact ey⟩, ⟨z'', ?_, ⟨u', v', ?_⟩, ?_, ?_⟩, fun c hcm => ?_⟩
    · exact (sb.2 _ S.TIz).trans (hk _ _ S.TIz S.TITO S.TIi1 S.TIi2 q2)
    · exact (sb.2 _ S.TOz).trans TO'
    · exact s1'.1.at fun o e => (sb.2 _ (Ne.symm S.zi1)).trans e
    · exact s2'.1.at fun o e => (sb.2 _ (Ne.symm S.zi2)).trans e
    · rw [upd_ne (Nat.ne_of_lt (low c hcm))]
      exact (hf c hcm).1
  done := by
    intro X hP hw hK hc i pins s σ H E I hf st hg
    subst hP hw hK
    obtain ⟨q1, q2, ⟨p, q, q3⟩, q4, q5⟩ := st
    obtain ⟨xs, ys, ⟨hx, hy⟩, el, rfl⟩ := hg
    obtain ⟨us, rx, tx, _⟩ := I.tuple hx
    obtain ⟨vs, ry, ty, _⟩ := I.list hy
    have l1 : xs.length = us.toArray.size := by rw [rx.length]; simp
    have l2 : ys.length = vs.toArray.size := by rw [ry.length]; simp
    have calm : X.A.in1.handled = none := I.ok.hd hc
    exact wpAny_pyNext_zipD2_end (prog := X.prog) (w := X.w) (A := X.A) S (Draws.tuple calm i1 a n1 us.toArray) (Draws.list calm i2 b n2 vs.toArray) q1 q2 q3 ⟨q4, tx⟩ ⟨q5, ty.isList⟩ (by omega) (by omega) (.inl l1) fun h' tk hk =>
      ⟨rfl, I.turnedL (t' := tk) (ch := [z, TI, TO, i1, i2]) (fun c o hb e => hk c o (fun e' => hb (by simp [e'])) (fun e' => hb (by simp [e'])) (fun e' => hb (by simp [e'])) (fun e' => hb (by simp [e'])) e) hf⟩
def iZipM (K : PySem.W.Frag) (ta : TA) : TI := fun σ H R => ta σ H fun vs H1 => ∃ a b xs ys, vs = [.ref a, .ref b] ∧ (SqT K H1 a xs ∧ SqL K H1 b ys) ∧ R (ItzM K a b) H1
theorem pi_zipM {X : Cx} {e e2 : Expr} {ta : TA} {p pos tpos : Pos} {elts : List Expr} {kk : Nat} (hg : Gl X "zip") (hm : X.mg "zip" = none) (ha : PA X [e, e2] ta)
    (hs : starEach [e, e2] X.env = (false, eval e X.env) :: starEach [e2] X.env := by rfl) (hpl : (backTo pos (starEach [e2] X.env)).any (·.1) = false := by rfl) :
    PI X (.Tuple elts kk tpos) (.Call (.Name "zip" p) [e, e2] [] pos) (iZipM X.K ta) := by
  refine ⟨fun pins s σ H R I h => Call_ (ld_blt I hg hm boot_zip (callWith_type1 (thn (ha.run pos pins s σ H _ I h) fun us s1 ⟨vs, H1, I1, r1, q1⟩ => ?_) hs hpl))⟩
  obtain ⟨a, b, xs, ys, rfl, ⟨hx, hy⟩, q⟩ := q1
  obtain ⟨u1, u2, rfl, r, r'⟩ := vals2 r1
  cases r
  cases r'
  obtain ⟨us, rx, tx, _⟩ := I1.tuple hx
  obtain ⟨vs, ry, ty, _⟩ := I1.list hy
  have al : a < s1.heap.objs.size := by obtain ⟨_, e, _⟩ := id tx; exact Heap.lt_size e
  have bl : b < s1.heap.objs.size := by obtain ⟨_, e, _⟩ := id ty.isList; exact Heap.lt_size e
  have sep := zip_sep2 (N := s1.heap.objs.size) (fp1 := [a]) (fp2 := [b]) (fun c hc => by rw [List.mem_singleton.mp hc]; exact al) (fun c hc => by rw [List.mem_singleton.mp hc]; exact bl)
  refine zip_begins2 (begins_tuple a us.toArray) (begins_list b vs.toArray) tx ty.isList fun h' z' TI' TO' o1 o2 hsz hk => wpAny_pyIter_zip z' ?_
  refine ⟨s1.heap.objs.size + 4, [s1.heap.objs.size + 4, s1.heap.objs.size + 2, s1.heap.objs.size + 3, s1.heap.objs.size, s1.heap.objs.size + 1], _, _, H1, rfl, I1.kept (t' := s1.toks) hk, turn_zipM sep (Nat.ne_of_lt al) (Nat.ne_of_lt (Nat.lt_succ_of_lt bl)),
    ⟨z', TI', ⟨_, _, TO'⟩, ⟨_, o1, rfl, rfl⟩, ⟨_, o2, rfl, rfl⟩⟩, fun c hc => ?_, q⟩
  have low : s1.heap.objs.size ≤ c := by
    rcases five hc with e | e | e | e | e <;> rw [e]
    · exact Nat.le_add_right _ _
    · exact Nat.le_add_right _ _
    · exact Nat.le_add_right _ _
    · exact Nat.le_refl _
    · exact Nat.le_add_right _ _
  exact I1.fpOk low (I1.hok.fresh low)
theorem walk_zipM {K : PySem.W.Frag} {a b : Addr} {xs ys : List V} (hl : xs.length = ys.length) : Walk (ItzM K a b) xs.length (fun H => SqT K H a xs ∧ SqL K H b ys) (fun i H v H' => ∃ T x y, v = .ref T ∧ H T = none ∧ H' = upd H T (.tup [x, y]) ∧ xs[i]? = some x ∧ ys[i]? = some y) :=
  ⟨fun i H hi q => ⟨xs, ys, xs[i], ys[i]'(hl ▸ hi), q, List.getElem?_eq_getElem hi, List.getElem?_eq_getElem (hl ▸ hi)⟩, fun H q => ⟨xs, ys, q, hl, rfl⟩, fun i H v H' hi q ⟨T, x, y, e1, ⟨e2, e3⟩, f, g⟩ => ⟨T, x, y, e1, e2, e3, f xs q.1, g ys q.2⟩⟩
end Xci

namespace Xci
open PySem L2
/-! ### the manners -/
def rk (man : Str) (ws : List Int) (ms : List Int) : Int := if man = "weights" then (ms.map fun m => ws.getD m.toNat 0).sum else (ms.length : Int)
def beatM (man : Str) (ws : List Int) (ms ns : List Int) : Bool := if man = "within" then inside ns ms && decide (ns.length < ms.length) else decide (rk man ws ns < rk man ws ms)
def mkA (es : List Ent) (j : Nat) : List Int := match es[j]? with
  | some e => e.1
  | none => []
def beatA (man : Str) (ws : List Int) (es : List Ent) (n o : Nat) : Bool := beatM man ws (mkA es n) (mkA es o)
theorem mkA_at {es : List Ent} {j : Nat} {e : Ent} (h : es[j]? = some e) : mkA es j = e.1 := by unfold mkA; rw [h]
theorem n_ww : ¬ (("within" : Str) = "weights") := by decide +kernel
theorem n_mostw : ¬ (("most" : Str) = "weights") := by decide +kernel
theorem n_mosti : ¬ (("most" : Str) = "within") := by decide +kernel
theorem n_wi : ¬ (("weights" : Str) = "within") := by decide +kernel
theorem beatM_ok (man : Str) (ws : List Int) (ms : List Int) : beatM man ws ms ms = false := by
  unfold beatM
  split
  · simp
  · exact decide_eq_false (by omega)
theorem beatM_asy {man : Str} {ws : List Int} {ms ns : List Int} (h : beatM man ws ms ns = true) : beatM man ws ns ms = false := by
  unfold beatM at h ⊢
  split at h
  · rename_i e
    rw [if_pos e]
    rw [Bool.and_eq_true, decide_eq_true_iff] at h
    have : decide (ms.length < ns.length) = false := decide_eq_false (by omega)
    rw [this, Bool.and_false]
  · rename_i e
    rw [if_neg e]
    rw [decide_eq_true_iff] at h
    exact decide_eq_false (by omega)
theorem beatA_ok (man : Str) (ws : List Int) (es : List Ent) : Beat (beatA man ws es) := ⟨fun n => beatM_ok _ _ _, fun n o h => beatM_asy h⟩
/-- the highest ones -/
def hi (js : List Nat) (r : Nat → Int) (m : Int) : List Nat := js.filter fun j => decide (r j = m)
structure IsMax (js : List Nat) (r : Nat → Int) (m : Int) : Prop where
  at_ : ∃ j ∈ js, r j = m
  le : ∀ j ∈ js, r j ≤ m
theorem hi_one {js : List Nat} {r : Nat → Int} {m : Int} {n : Nat} (M : IsMax js r m) (h : hi js r m = [n]) : n ∈ js ∧ r n = m ∧ ∀ o ∈ js, o ≠ n → r o < r n := by
  have h1 : n ∈ hi js r m := by rw [h]; simp
  obtain ⟨a, b⟩ := List.mem_filter.mp h1
  have b := of_decide_eq_true b
  refine ⟨a, b, fun o ho hne => ?_⟩
  have l := M.le o ho
  by_cases e : r o = m
  · have : o ∈ hi js r m := List.mem_filter.mpr ⟨ho, decide_eq_true e⟩
    rw [h] at this
    exact absurd (List.mem_singleton.mp this) hne
  · omega
theorem hi_many {js : List Nat} {r : Nat → Int} {m : Int} (hn : js.Nodup) (M : IsMax js r m) (h : 1 < (hi js r m).length) (x : Nat) (hx : x ∈ js) : ∃ o ∈ js, o ≠ x ∧ r x ≤ r o := by
  have nd : (hi js r m).Nodup := List.Sublist.nodup List.filter_sublist hn
  match hl : hi js r m with
  | [] => rw [hl] at h; simp at h
  | [y] => rw [hl] at h; simp at h
  | y :: z :: t =>
    rw [hl] at nd
    have hyz : y ≠ z := fun e => (List.nodup_cons.mp nd).1 (by rw [e]; simp)
    have hy : y ∈ hi js r m := by rw [hl]; simp
    have hz : z ∈ hi js r m := by rw [hl]; simp
    obtain ⟨a1, b1⟩ := List.mem_filter.mp hy
    obtain ⟨a2, b2⟩ := List.mem_filter.mp hz
    have b1 := of_decide_eq_true b1
    have b2 := of_decide_eq_true b2
    have l := M.le x hx
    by_cases e : y = x
    · exact ⟨z, a2, fun q => hyz (by rw [e, q]), by omega⟩
    · exact ⟨y, a1, e, by omega⟩
theorem hi_ne {js : List Nat} {r : Nat → Int} {m : Int} (M : IsMax js r m) : hi js r m ≠ [] := by
  obtain ⟨j, hj, e⟩ := M.at_
  intro q
  have : j ∈ hi js r m := List.mem_filter.mpr ⟨hj, decide_eq_true e⟩
  rw [q] at this
  cases this
def rkA (man : Str) (ws : List Int) (es : List Ent) (j : Nat) : Int := rk man ws (mkA es j)
/-- what beats has the greater rank -/
theorem beat_rk {man : Str} {ws : List Int} {es : List Ent} {n o : Nat} (hw : man ≠ "weights" ∨ man ≠ "within") (h : beatA man ws es n o = true) : rkA man ws es o < rkA man ws es n := by
  unfold beatA beatM at h
  split at h
  · rename_i e
    subst e
    rw [Bool.and_eq_true, decide_eq_true_iff] at h
    unfold rkA rk
    rw [if_neg n_ww, if_neg n_ww]
    omega
  · exact of_decide_eq_true h
theorem many_noWin {man : Str} {ws : List Int} {es : List Ent} {js : List Nat} {m : Int} (hn : js.Nodup) (M : IsMax js (rkA man ws es) m) (h : 1 < (hi js (rkA man ws es) m).length) (n : Nat) : ¬ Win js (beatA man ws es) n := fun w => by
  obtain ⟨o, ho, hne, l⟩ := hi_many hn M h n w.1
  have hw : man ≠ "weights" ∨ man ≠ "within" := by
    by_cases e : man = "weights"
    · exact .inr (by rw [e]; exact n_wi)
    · exact .inl e
  have := beat_rk hw (w.2 o ho hne)
  omega
theorem one_Win {man : Str} {ws : List Int} {es : List Ent} {js : List Nat} {m : Int} {n : Nat} (hm : man ≠ "within") (M : IsMax js (rkA man ws es) m) (h : hi js (rkA man ws es) m = [n]) : Win js (beatA man ws es) n := by
  obtain ⟨a, b, l⟩ := hi_one M h
  refine ⟨a, fun o ho hne => ?_⟩
  unfold beatA beatM
  rw [if_neg hm]
  exact decide_eq_true (l o ho hne)
def holds (es : List Ent) (js : List Nat) (n : Nat) : Bool := js.all fun o => inside (mkA es o) (mkA es n)
theorem rk_within (ws : List Int) (es : List Ent) (j : Nat) : rkA "within" ws es j = ((mkA es j).length : Int) := by
  unfold rkA rk
  rw [if_neg n_ww]
theorem within_Win {ws : List Int} {es : List Ent} {js : List Nat} {m : Int} {n : Nat} (M : IsMax js (rkA "within" ws es) m) (h : hi js (rkA "within" ws es) m = [n]) (hh : holds es js n = true) : Win js (beatA "within" ws es) n := by
  obtain ⟨a, b, l⟩ := hi_one M h
  refine ⟨a, fun o ho hne => ?_⟩
  unfold beatA beatM
  rw [if_pos rfl, Bool.and_eq_true]
  have := l o ho hne
  rw [rk_within, rk_within] at this
  exact ⟨List.all_eq_true.mp hh o ho, decide_eq_true (by omega)⟩
theorem within_noWin {ws : List Int} {es : List Ent} {js : List Nat} {m : Int} {n : Nat} (M : IsMax js (rkA "within" ws es) m) (h : hi js (rkA "within" ws es) m = [n]) (hh : holds es js n = false) (k : Nat) : ¬ Win js (beatA "within" ws es) k := fun w => by
  obtain ⟨a, b, l⟩ := hi_one M h
  have e : n = k := by
    by_cases e : n = k
    · exact e
    · have h1 := beat_rk (.inl n_ww) (w.2 n a e)
      have h2 := l k w.1 (fun q => e q.symm)
      omega
  subst e
  have : holds es js n = true := List.all_eq_true.mpr fun o ho => by
    by_cases e : o = n
    · subst e
      exact List.all_eq_true.mpr fun m hm => decide_eq_true hm
    · have q := w.2 o ho e
      unfold beatA beatM at q
      rw [if_pos rfl, Bool.and_eq_true] at q
      exact q.1
  rw [this] at hh
  cases hh
/-- without a greatest one: the highest are those whom none beats -/
theorem hi_maxB {man : Str} {ws : List Int} {es : List Ent} {js : List Nat} {m : Int} (hm : man ≠ "within") (M : IsMax js (rkA man ws es) m) : js.filter (maxB js (beatA man ws es)) = hi js (rkA man ws es) m := by
  unfold hi
  refine List.filter_congr fun j hj => ?_
  unfold maxB
  have l := M.le j hj
  rw [Bool.eq_iff_iff, decide_eq_true_iff, Bool.not_eq_true', List.any_eq_false]
  constructor
  · intro h
    obtain ⟨o, ho, e⟩ := M.at_
    have := h o ho
    unfold beatA beatM at this
    rw [if_neg hm] at this
    have q : ¬ rkA man ws es j < rkA man ws es o := fun z => this (decide_eq_true z)
    omega
  · intro h o ho
    unfold beatA beatM
    rw [if_neg hm]
    have l2 := M.le o ho
    intro z
    have z := of_decide_eq_true z
    have z : rkA man ws es j < rkA man ws es o := z
    omega
def outdone (es : List Ent) (js : List Nat) (n : Nat) : Bool := (js.filter fun o => decide ((mkA es n).length < (mkA es o).length)).any fun o => inside (mkA es n) (mkA es o)
theorem out_maxB {ws : List Int} {es : List Ent} {js : List Nat} : js.filter (maxB js (beatA "within" ws es)) = js.filter fun n => !outdone es js n := by
  refine List.filter_congr fun j hj => ?_
  unfold maxB outdone
  congr 1
  rw [List.any_filter]
  congr 1
  funext o
  unfold beatA beatM
  rw [if_pos rfl, Bool.and_comm]
/-! ### results as values -/
def ResAt (H : Hp) (v : V) : Res → Prop
  | .none => Tup H v [.str "none"]
  | .ent j => Tup H v [.str "entry", .int (j : Int)]
  | .qua l => ∃ t, Tup H v [.str "quarrel", .ref t] ∧ H t = some (.tup ((nat2 l).map V.int))
theorem ResAt.keep {H H' : Hp} {v : V} {r : Res} (f : TFr H H') (h : ResAt H v r) : ResAt H' v r := by
  cases r with
  | none => exact Tup.keep f h
  | ent j => exact Tup.keep f h
  | qua l =>
    obtain ⟨t, a, b⟩ := h
    exact ⟨t, a.keep f, f _ _ b⟩
def resD : Res → PyData
  | .none => .tuple [.str "none"]
  | .ent j => .tuple [.str "entry", .int (j : Int)]
  | .qua l => .tuple [.str "quarrel", .tuple ((nat2 l).map PyData.int)]
theorem toD_ints (ns : List Int) : (ns.map V.int).map toD = ns.map PyData.int := by
  rw [List.map_map]
  rfl
theorem flat0_ints (ns : List Int) : (ns.map V.int).all flat0 = true := by
  rw [List.all_map]; exact List.all_eq_true.mpr fun _ _ => rfl
theorem dp_res {K : PySem.W.Frag} {H : Hp} {v : V} {r : Res} (h : ResAt H v r) : Dp K H v (resD r) := by
  cases r with
  | none => exact dp_tup h rfl
  | ent j => exact dp_tup h rfl
  | qua l =>
    obtain ⟨t, ⟨p, rfl, hp⟩, ht⟩ := h
    have q := dp_tup (K := K) (v := .ref t) ⟨t, rfl, ht⟩ (flat0_ints (nat2 l))
    rw [toD_ints] at q
    exact .tup (sqT hp) (.cons (.str _) (.cons q .nil))
theorem lay_ints (ns : List Int) : PyData.canLayAll0 (ns.map PyData.int) = true ∧ PyData.depthAll (ns.map PyData.int) = 0 := by
  induction ns with
  | nil => exact ⟨rfl, rfl⟩
  | cons n r ih =>
    rw [List.map_cons]
    simp [PyData.canLayAll0, PyData.depthAll, PyData.canLay0, PyData.depth, ih.1, ih.2]
theorem sh_ints (ns : List Int) : SeqAt.shaped (.list (ns.map PyData.int)) = true := by
  obtain ⟨a, b⟩ := lay_ints ns
  simp [SeqAt.shaped, PyData.canLay0, PyData.depth, a, b]
theorem eqv_ints (ns : List Int) : PyData.eqvAll (ns.map PyData.int) (ns.map PyData.int) = true := by
  induction ns with
  | nil => rfl
  | cons n r ih =>
    rw [List.map_cons]
    simp [PyData.eqvAll, PyData.eqv, ih]
theorem sh_res (r : Res) : SeqAt.shaped (resD r) = true := by
  cases r with
  | none => exact sh1
  | ent j => exact sh2 _
  | qua l =>
    obtain ⟨a, b⟩ := lay_ints (nat2 l)
    have h : PyData.canLay0 (.str "quarrel") = true := by decide +kernel
    simp [resD, SeqAt.shaped, PyData.canLay0, PyData.canLayAll0, PyData.depth, PyData.depthAll, a, b]
    simpa [PyData.canLay0] using h
theorem eqv_res (r : Res) : PyData.eqv (resD r) (resD r) = true := by
  cases r with
  | none => exact eqv1 _
  | ent j =>
    show PyData.eqv (.tuple [.str "entry", .int (j : Int)]) (.tuple [.str "entry", .int (j : Int)]) = true
    rw [eqv2]
    exact decide_eq_true rfl
  | qua l =>
    have := eqv_ints (nat2 l)
    simp [resD, PyData.eqv, PyData.eqvAll, this]
/-! ### books of all manners -/
def WtIs (H : Hp) (man : Str) (wt : V) (ws : List Int) : Prop := (man ≠ "weights" ∧ wt = .non) ∨ (man = "weights" ∧ Xci.Mk H wt ws ∧ ws.length = 6 ∧ ∀ x ∈ ws, 0 ≤ x ∧ x ≤ 1000000)
theorem WtIs.keep {H H' : Hp} {man : Str} {wt : V} {ws : List Int} (f : TFr H H') (h : WtIs H man wt ws) : WtIs H' man wt ws := h.imp id fun ⟨a, b, c⟩ => ⟨a, Tup.keep f b, c⟩
theorem WtIs.ok {H : Hp} {man : Str} {wt : V} {ws : List Int} (h : WtIs H man wt ws) : WtOk H man wt := h.imp id fun ⟨a, b, c⟩ => ⟨a, ws, b, c⟩
structure BookSt (C : Addr) (H : Hp) (b : Addr) (man : Str) (ws : List Int) (es : List Ent) : Prop where
  ex : ∃ (p : Addr) (wt : V) (ys : List V), BookAt C H b man p wt ∧ H p = some (.tup ys) ∧ Ents H ys es ∧ WtIs H man wt ws
  ok : ∀ e ∈ es, EntOk e
  len : es.length ≤ 40
theorem BookSt.same {C : Addr} {H H' : Hp} {b : Addr} {man : Str} {ws : List Int} {es : List Ent} (h : BookSt C H b man ws es) (f : Same H H') : BookSt C H' b man ws es := by
  obtain ⟨⟨p, wt, ys, ⟨dx, a1⟩, a2, a3, a4⟩, b1, b2⟩ := h
  exact ⟨⟨p, wt, ys, ⟨dx, f _ _ a1⟩, f _ _ a2, Ents.keep (TFr.same f) a3, a4.keep (TFr.same f)⟩, b1, b2⟩
/-- the numbers js, all of entries -/
def Nums (H : Hp) (q : Addr) (js : List Nat) : Prop := H q = some (.tup ((nat2 js).map V.int))
theorem num_of {js : List Nat} {i : Nat} {y : V} (h : ((nat2 js).map V.int)[i]? = some y) : ∃ j, js[i]? = some j ∧ y = V.int (j : Int) := by
  obtain ⟨z, hz, rfl⟩ := int_of h
  unfold nat2 at hz
  rw [List.getElem?_map] at hz
  cases e : js[i]? with
  | none => rw [e] at hz; cases hz
  | some j => rw [e] at hz; exact ⟨j, rfl, by rw [← Option.some.inj hz]⟩
theorem nat2_len (js : List Nat) : (nat2 js).length = js.length := by unfold nat2; rw [List.length_map]
def spRank (C : Addr) : Sp := fun vs H Q _ => ∃ (b : Addr) (man : Str) (ws : List Int) (es : List Ent) (j : Nat), vs = [.ref b, .int (j : Int)] ∧ BookSt C H b man ws es ∧ j < es.length ∧ ∀ H', Same H H' → Q (.int (rkA man ws es j)) H'
def spHighest (C : Addr) : Sp := fun vs H Q _ => ∃ (b q : Addr) (man : Str) (ws : List Int) (es : List Ent) (js : List Nat), vs = [.ref b, .ref q] ∧ BookSt C H b man ws es ∧ Nums H q js ∧ (∀ j ∈ js, j < es.length) ∧ js ≠ [] ∧ js.length ≤ 40 ∧
  ∀ (t : Addr) (m : Int) (H' : Hp), IsMax js (rkA man ws es) m → Nums H' t (hi js (rkA man ws es) m) → Same H H' → Q (.ref t) H'
def spHolds (C : Addr) : Sp := fun vs H Q _ => ∃ (b q : Addr) (man : Str) (ws : List Int) (es : List Ent) (js : List Nat) (n : Nat), vs = [.ref b, .int (n : Int), .ref q] ∧ BookSt C H b man ws es ∧ Nums H q js ∧ (∀ j ∈ js, j < es.length) ∧ n < es.length ∧ js.length ≤ 40 ∧ ∀ H', Same H H' → Q (.bl (holds es js n)) H'
def spOutdone (C : Addr) : Sp := fun vs H Q _ => ∃ (b q : Addr) (man : Str) (ws : List Int) (es : List Ent) (js : List Nat) (n : Nat), vs = [.ref b, .int (n : Int), .ref q] ∧ BookSt C H b man ws es ∧ Nums H q js ∧ (∀ j ∈ js, j < es.length) ∧ n < es.length ∧ js.length ≤ 40 ∧ ∀ H', Same H H' → Q (.bl (outdone es js n)) H'
def Man3 (man : Str) : Prop := man = "within" ∨ man = "weights" ∨ man = "most"
def spQuarrel (C : Addr) : Sp := fun vs H Q _ => ∃ (b q : Addr) (man : Str) (ws : List Int) (es : List Ent) (js : List Nat), vs = [.ref b, .ref q] ∧ BookSt C H b man ws es ∧ Nums H q js ∧ (∀ j ∈ js, j < es.length) ∧ js ≠ [] ∧ js.length ≤ 40 ∧
  ∀ (t : Addr) (H' : Hp), Nums H' t (js.filter (maxB js (beatA man ws es))) → Same H H' → Q (.ref t) H'
def resV : Res → V
  | .ent j => .int (j : Int)
  | _ => .non
def spSpeaking (C : Addr) : Sp := fun vs H Q _ => ∃ (b q : Addr) (man : Str) (ws : List Int) (es : List Ent) (js : List Nat), vs = [.ref b, .ref q] ∧ BookSt C H b man ws es ∧ Man3 man ∧ Nums H q js ∧ (∀ j ∈ js, j < es.length) ∧ js.Nodup ∧ js.length ≤ 40 ∧
  ∀ H', Same H H' → Q (resV (lawRes js (beatA man ws es))) H'
def spSpeaker (C : Addr) : Sp := fun vs H Q _ => ∃ (b : Addr) (v : V) (man : Str) (ws : List Int) (es : List Ent) (ms : List Int), vs = [.ref b, v] ∧ BookSt C H b man ws es ∧ Man3 man ∧ Xci.Mk H v ms ∧ MarksOk 6 ms ∧
  ∀ (u : V) (H' : Hp), ResAt H' u (lawRes (fitN es ms) (beatA man ws es)) → Same H H' → Q u H'
def spBeats : Sp := fun vs H Q _ => ∃ (man : Str) (wt u v : V) (ws ms ns : List Int), vs = [.str man, wt, u, v] ∧ Man3 man ∧ WtIs H man wt ws ∧ Xci.Mk H u ms ∧ Xci.Mk H v ns ∧ MarksOk 6 ms ∧ MarksOk 6 ns ∧ ∀ H', Same H H' → Q (.bl (beatM man ws ms ns)) H'
def spSum : Sp := fun vs H Q _ => ∃ (wt u : V) (ws ms : List Int), vs = [wt, u] ∧ Xci.Mk H wt ws ∧ ws.length = 6 ∧ Xci.Mk H u ms ∧ MarksOk 6 ms ∧ ∀ H', Same H H' → Q (.int (ms.map fun m => ws.getD m.toNat 0).sum) H'
def spProper : Sp := fun vs H Q _ => ∃ (u v : V) (ms ns : List Int), vs = [u, v] ∧ Xci.Mk H u ms ∧ Xci.Mk H v ns ∧ ms.length ≤ 1000 ∧ ∀ H', Same H H' → Q (.bl (inside ms ns && decide (ms.length < ns.length))) H'
def spSpeaks (K : PySem.W.Frag) : Sp := fun vs H Q _ => ∃ (man : Str) (p : Addr) (wt v : V) (ys : List V) (ws : List Int) (es : List Ent) (ms : List Int), vs = [.str man, .ref p, wt, v] ∧ Man3 man ∧ WtIs H man wt ws ∧ H p = some (.tup ys) ∧ Ents H ys es ∧ (∀ e ∈ es, EntOk e) ∧ es.length ≤ 1000 ∧ Xci.Mk H v ms ∧
  ∀ (u : V) (H' : Hp), ResAt H' u (lawRes (fitN es ms) (beatA man ws es)) → Same H H' → Q u H'
theorem fit_nd (es : List Ent) (ms : List Int) : (fitN es ms).Nodup := List.Sublist.nodup List.filter_sublist List.nodup_range
theorem fit_lt {es : List Ent} {ms : List Int} : ∀ j ∈ fitN es ms, j < es.length := fun j hj => List.mem_range.mp (List.mem_filter.mp hj).1
theorem fitN_len (es : List Ent) (ms : List Int) : (fitN es ms).length ≤ es.length := Nat.le_trans (List.length_filter_le _ _) (by rw [List.length_range]; exact Nat.le_refl _)
end Xci

namespace Xci
open PySem L2
/-! ### a book in another order; weights twice, even weights; sorted lists -/
theorem made_book {C x dx : Addr} {H : Hp} {man : Str} {p : Addr} {wt : V} {ys : List V} {es : List Ent} {ws : List Int} {Q : VK} {E : XK} (nx : H x = Option.none) (ndx : H dx = Option.none) (hm : Man man) (hw : WtIs H man wt ws) (hp : H p = some (.tup ys)) (ents : Ents H ys es)
    (ok : ∀ e ∈ es, EntOk e) (len : es.length ≤ 40) (G : ∀ H', BookSt C H' x man ws es → Same H H' → Q .non H') : spBook C [.ref x, .str man, .ref p, wt] (upd (upd H dx (.own x)) x (.ins C dx [])) Q E := by
  have s3 : Same H (upd (upd H dx (.own x)) x (.ins C dx [])) := fun b o e => by rw [upd_ne (ne_of_none e nx), upd_ne (ne_of_none e ndx)]; exact e
  refine ⟨x, dx, man, p, wt, ys, es, rfl, upd_same, hm, (hw.keep (TFr.same s3)).ok, s3 _ _ hp, Ents.keep (TFr.same s3) ents, ok, len, fun H' hb kp => ?_⟩
  have s4 : Same H H' := fun b o e => kp b o (s3 b o e) (ne_of_none e nx)
  exact G H' ⟨⟨p, wt, ys, hb, s4 _ _ hp, Ents.keep (TFr.same s4) ents, hw.keep (TFr.same s4)⟩, ok, len⟩ s4
/-- esT holds the entries of es in the order ord -/
structure Picked (es : List Ent) (ord : List Nat) (esT : List Ent) : Prop where
  len : esT.length = ord.length
  at_ : ∀ (i j : Nat), ord[i]? = some j → esT[i]? = es[j]?
def gOf (ord : List Nat) (i : Nat) : Nat := ord.getD i 0
theorem gOf_at {ord : List Nat} {i j : Nat} (h : ord[i]? = some j) : gOf ord i = j := by
  unfold gOf
  rw [List.getD_eq_getElem?_getD, h]
  rfl
theorem Picked.snoc {es : List Ent} {ord : List Nat} {esT : List Ent} {i j : Nat} {e : Ent} (P : Picked es (ord.take i) esT) (hi : i ≤ ord.length) (h : ord[i]? = some j) (he : es[j]? = some e) : Picked es (ord.take (i + 1)) (esT ++ [e]) := by
  have hlt := (List.getElem?_eq_some_iff.mp h).1
  have el : esT.length = i := by rw [P.len, List.length_take]; omega
  have et : ord.take (i + 1) = ord.take i ++ [j] := by rw [List.take_add_one, h]; rfl
  refine ⟨by rw [List.length_append, el, List.length_take, List.length_singleton]; omega, fun k m hk => ?_⟩
  rw [et] at hk
  have tl : (ord.take i).length = i := by rw [List.length_take]; omega
  by_cases hki : k < i
  · rw [List.getElem?_append_left (by omega)] at hk
    rw [List.getElem?_append_left (by omega)]
    exact P.at_ k m hk
  · have hkl := (List.getElem?_eq_some_iff.mp hk).1
    rw [List.length_append, tl, List.length_singleton] at hkl
    have : k = i := by omega
    subst this
    rw [List.getElem?_append_right (by omega), tl, Nat.sub_self] at hk
    obtain rfl : j = m := Option.some.inj hk
    rw [List.getElem?_append_right (by omega), el, Nat.sub_self, he]
    rfl
theorem Picked.mk_ {es : List Ent} {ord : List Nat} {esT : List Ent} (P : Picked es ord esT) {i : Nat} (hi : i < ord.length) : mkA esT i = mkA es (gOf ord i) := by
  have h : ord[i]? = some ord[i] := List.getElem?_eq_getElem hi
  unfold mkA
  rw [gOf_at h, P.at_ i _ h]
theorem Picked.fit {es : List Ent} {ord : List Nat} {esT : List Ent} (P : Picked es ord esT) {i : Nat} (ms : List Int) (hi : i < ord.length) : fitP esT ms i = fitP es ms (gOf ord i) := by
  have h : ord[i]? = some ord[i] := List.getElem?_eq_getElem hi
  unfold fitP
  rw [gOf_at h, P.at_ i _ h]
theorem gOf_map (ord : List Nat) : (List.range ord.length).map (gOf ord) = ord := by
  refine List.ext_getElem? fun i => ?_
  rw [List.getElem?_map]
  by_cases hi : i < ord.length
  · rw [List.getElem?_eq_getElem (by rw [List.length_range]; exact hi), List.getElem_range, List.getElem?_eq_getElem hi]
    show some (gOf ord i) = _
    rw [gOf_at (List.getElem?_eq_getElem hi)]
  · rw [List.getElem?_eq_none (by rw [List.length_range]; omega), List.getElem?_eq_none (by omega)]
    rfl
theorem Picked.perm {es : List Ent} {ord : List Nat} {esT : List Ent} (P : Picked es ord esT) (hp : ord.Perm (List.range es.length)) (ms : List Int) : ((fitN esT ms).map (gOf ord)).Perm (fitN es ms) := by
  have e1 : fitN esT ms = (List.range ord.length).filter (fun i => fitP es ms (gOf ord i)) := by
    unfold fitN
    rw [P.len]
    exact List.filter_congr fun i hi => P.fit ms (List.mem_range.mp hi)
  have e2 : ((List.range ord.length).filter (fun i => fitP es ms (gOf ord i))).map (gOf ord) = ((List.range ord.length).map (gOf ord)).filter (fitP es ms) := by
    rw [List.filter_map]
    rfl
  rw [e1, e2, gOf_map]
  exact hp.filter _
theorem Picked.turned {es : List Ent} {ord : List Nat} {esT : List Ent} (P : Picked es ord esT) (hp : ord.Perm (List.range es.length)) (man : Str) (ws ms : List Int) :
    Turned (gOf ord) (lawRes (fitN esT ms) (beatA man ws esT)) (lawRes (fitN es ms) (beatA man ws es)) := by
  refine lawRes_turned (beatA_ok _ _ _) (beatA_ok _ _ _) (fit_nd es ms) (P.perm hp ms) fun i hi o ho => ?_
  have h1 : i < ord.length := by rw [← P.len]; exact fit_lt i hi
  have h2 : o < ord.length := by rw [← P.len]; exact fit_lt o ho
  unfold beatA
  rw [P.mk_ h1, P.mk_ h2]
theorem Picked.ok {es : List Ent} {ord : List Nat} {esT : List Ent} (P : Picked es ord esT) (h : ∀ e ∈ es, EntOk e) : ∀ e ∈ esT, EntOk e := by
  intro e he
  obtain ⟨i, hi⟩ := List.getElem?_of_mem he
  have hl := (List.getElem?_eq_some_iff.mp hi).1
  rw [P.len] at hl
  have := P.at_ i _ (List.getElem?_eq_getElem hl)
  rw [hi] at this
  exact h e (List.mem_of_getElem? this.symm)
theorem lawRes_asc {js : List Nat} {beat : Nat → Nat → Bool} (h : js.Pairwise (· < ·)) {l : List Nat} (e : lawRes js beat = .qua l) : l.Pairwise (· < ·) ∧ l.length ≤ js.length := by
  unfold lawRes at e
  split at e
  · cases e
  · split at e
    · cases e
    · obtain rfl := Res.qua.inj e
      exact ⟨h.sublist List.filter_sublist, List.length_filter_le _ _⟩
theorem fit_asc (es : List Ent) (ms : List Int) : (fitN es ms).Pairwise (· < ·) := List.pairwise_lt_range.sublist List.filter_sublist
/-- two ascending lists of the same items are one -/
theorem sorted_one : ∀ {xs ys : List Int}, xs.Perm ys → xs.Pairwise (· ≤ ·) → ys.Pairwise (· ≤ ·) → xs = ys
  | [], ys, p, _, _ => (List.nil_perm.mp p).symm
  | x :: r, [], p, _, _ => by have := p.length_eq; simp at this
  | x :: r, y :: t, p, hx, hy => by
    obtain ⟨a1, a2⟩ := List.pairwise_cons.mp hx
    obtain ⟨b1, b2⟩ := List.pairwise_cons.mp hy
    have e : x = y := by
      have m1 : x ∈ y :: t := p.subset (by simp)
      have m2 : y ∈ x :: r := p.symm.subset (by simp)
      rcases List.mem_cons.mp m1 with q1 | q1
      · exact q1
      · rcases List.mem_cons.mp m2 with q2 | q2
        · exact q2.symm
        · have := b1 x q1
          have := a1 y q2
          omega
    subst e
    rw [sorted_one (List.perm_cons x |>.mp p) a2 b2]
theorem nat2_asc {l : List Nat} (h : l.Pairwise (· < ·)) : (nat2 l).Pairwise (· ≤ ·) := by
  unfold nat2
  rw [List.pairwise_map]
  exact h.imp fun q => by omega
theorem nat2_perm {l k : List Nat} (h : l.Perm k) : (nat2 l).Perm (nat2 k) := h.map _
theorem dp_list {K : PySem.W.Frag} {H : Hp} {p : Addr} {ns : List Int} (h : H p = some (.lst (ns.map V.int))) : Dp K H (.ref p) (.list (ns.map PyData.int)) := by
  have q := dp_all (K := K) (H := H) (flat0_ints ns)
  rw [toD_ints] at q
  exact .lst (SqL.of h) q
/-! weights -/
theorem getD_twice {ws : List Int} {i : Nat} : (ws.map (2 * ·)).getD i 0 = 2 * ws.getD i 0 := by
  rw [List.getD_eq_getElem?_getD, List.getD_eq_getElem?_getD, List.getElem?_map]
  cases ws[i]? <;> simp
theorem sum_twice (ws ms : List Int) : (ms.map fun m => (ws.map (2 * ·)).getD m.toNat 0).sum = 2 * (ms.map fun m => ws.getD m.toNat 0).sum := by
  induction ms with
  | nil => rfl
  | cons m r ih =>
    rw [List.map_cons, List.map_cons, List.sum_cons, List.sum_cons, ih, getD_twice]
    omega
theorem beat_twice (ws ms ns : List Int) : beatM "weights" (ws.map (2 * ·)) ms ns = beatM "weights" ws ms ns := by
  unfold beatM rk
  rw [if_neg n_wi, if_pos rfl, if_pos rfl, if_neg n_wi, if_pos rfl, if_pos rfl, sum_twice, sum_twice, Bool.eq_iff_iff, decide_eq_true_iff, decide_eq_true_iff]
  omega
theorem getD_even {c : Int} {i : Nat} (h : i < 6) : (List.replicate 6 c).getD i 0 = c := by
  rw [List.getD_eq_getElem?_getD, List.getElem?_replicate, if_pos h]
  rfl
theorem sum_even {c : Int} {ms : List Int} (h : MarksOk 6 ms) : (ms.map fun m => (List.replicate 6 c).getD m.toNat 0).sum = c * ms.length := by
  have : ∀ ms : List Int, (∀ m ∈ ms, 0 ≤ m ∧ m < 6) → (ms.map fun m => (List.replicate 6 c).getD m.toNat 0).sum = c * ms.length := by
    intro ms
    induction ms with
    | nil => intro _; simp
    | cons m r ih =>
      intro hb
      have b := hb m (by simp)
      rw [List.map_cons, List.sum_cons, ih fun k hk => hb k (List.mem_cons_of_mem _ hk), getD_even (by omega), List.length_cons]
      have : c * ((r.length + 1 : Nat) : Int) = c * (r.length : Int) + c := by
        rw [Int.natCast_add, Int.mul_add]
        simp
      rw [this]
      omega
  exact this ms fun m hm => ⟨h.lo m hm, h.hi m hm⟩
theorem beat_even {c : Int} {ms ns ws : List Int} (hc : 1 ≤ c) (hm : MarksOk 6 ms) (hn : MarksOk 6 ns) : beatM "weights" (List.replicate 6 c) ms ns = beatM "most" ws ms ns := by
  unfold beatM rk
  rw [if_neg n_wi, if_pos rfl, if_pos rfl, if_neg n_mosti, if_neg n_mostw, if_neg n_mostw, sum_even hm, sum_even hn, Bool.eq_iff_iff, decide_eq_true_iff, decide_eq_true_iff]
  constructor
  · intro h
    exact Int.lt_of_mul_lt_mul_left h (by omega)
  · intro h
    exact Int.mul_lt_mul_of_pos_left h (by omega)
theorem mkA_ok {es : List Ent} (h : ∀ e ∈ es, EntOk e) (j : Nat) : MarksOk 6 (mkA es j) := by
  unfold mkA
  cases e : es[j]? with
  | none => exact ⟨.nil, by simp, by simp⟩
  | some x => exact (h x (List.mem_of_getElem? e)).ms
/-! max of a tuple of ints -/
end Xci
namespace Xci
open PySem PySem.Spec PyProof.Rows L2
theorem max_tup {prog : Program} {w : World} {A : Around} {E : Value → Shared → Prop} {s : Shared} {l : Addr} {its : List Value} {ns : List Int} {Q : Value → Shared → Prop} (hh : A.handled = none) (ht : s.heap.IsTuple l its.toArray) (hi : IntsAre its ns) (hne : 0 < ns.length)
    (h : ∀ h' tk M t', (∀ b o, s.heap.get? b = some o → h'.get? b = some o) → M ∈ ns → (∀ a, a ∈ ns → a ≤ M) → Q (.int M t') { s with heap := h', toks := tk }) : wpAny (model prog w) A (call (.builtin "max") [.ref l]) Q E s := by
  obtain ⟨xs, e⟩ := hi.allInts.items
  have hn : numsOf (intItems xs).toList = ns := e ▸ hi.numsOf
  rw [nums_intItems] at hn
  subst hn
  rw [e] at ht
  have pos : 0 < xs.size := by simpa using hne
  have below : l < s.heap.objs.size := by obtain ⟨_, q, _⟩ := id ht; exact Heap.lt_size q
  refine PySem.call_max_walk (wpAny_pyIter_tuple ht ?_)
  refine ⟨_, _, _, _, _, _, _, rfl, Walks.tuple (A := A.in1) hh s.heap.objs.size l (Nat.ne_of_lt below) (intItems xs), ⟨⟨_, Heap.get?_push_size _ rfl, rfl, rfl⟩, ht.at fun o q => Heap.get?_push_of_some _ q⟩, fun b hb => ?_, by simpa [intItems] using pos,
    CmpOf.ints_gt (numAt xs) (fun _ _ => intItems_at), fun v h' tk hv hk => ?_⟩
  · show b < (s.heap.push _).objs.size
    rw [Heap.size_push]
    have hb' : b = s.heap.objs.size ∨ b = l := by simpa using hb
    rcases hb' with q | q <;> rw [q]
    · exact Nat.lt_succ_self _
    · exact Nat.lt_succ_of_lt below
  have hv' : (intItems xs)[argBest (fun i j => decide (numAt xs i > numAt xs j)) (xs.size - 1)]? = some v := by simpa [intItems] using hv
  obtain ⟨t, rfl⟩ := intItems_at hv'
  obtain ⟨b1, b2⟩ := argBest_gt (numAt xs) (xs.size - 1)
  refine h h' tk _ t (fun b o q => ?_) ?_ fun a ha => ?_
  · refine hk b o (fun hm => ?_) (Heap.get?_push_of_some _ q)
    have hb' : b = s.heap.objs.size := by simpa using hm
    exact absurd (Heap.lt_size q) (by rw [hb']; exact Nat.lt_irrefl _)
  · rw [numAt_eq]
    exact PySem.getD_mem (by rw [List.length_map, Array.length_toList]; omega)
  · obtain ⟨j, hj, rfl⟩ := mem_getD ha
    rw [List.length_map, Array.length_toList] at hj
    rw [← numAt_eq]
    exact b2 j (by omega)
def rMaxT (K : PySem.W.Frag) : List V → Hp → VK → Prop := fun vs H Q => ∃ (a : Addr) (ns : List Int), vs = [V.ref a] ∧ SqT K H a (ns.map V.int) ∧ 0 < ns.length ∧ ∀ m, m ∈ ns → (∀ y, y ∈ ns → y ≤ m) → Q (.int m) H
theorem cr_maxT {X : Cx} (hc : X.calm = true) : CallR X (.builtin "max") (rMaxT X.K) := by
  intro pins s σ H vs us Q I r h
  obtain ⟨a, ns, rfl, hs, hne, q⟩ := h
  obtain ⟨its, rv, hl, _⟩ := I.tuple hs
  rw [Vals.ref1 r]
  exact max_tup (I.ok.hd hc) hl rv.ints hne fun h' tk m t' hk h1 h2 => ⟨.int m, H, I.kept hk, ⟨_, rfl⟩, q m h1 h2⟩
end Xci

namespace Xci
open PySem L2

section
variable {P : Program} {w : World} {K : PySem.W.Frag} {mg : Str → Option Value} {base : Heap}
abbrev sLawTake : Stmt := top 30
theorem scLawTake : FnScope ["deck", "many", "digit", "one"] ["deck", "many"] (defScope sLawTake) := ⟨rfl, rfl, rfl, by decide +kernel, rfl, by decide +kernel, by decide +kernel⟩

theorem ok_take {f : Addr} {fd : FuncData} (F : Fun K "_law_take" "_law_take" sLawTake f fd) (T : Txt mg) : FnOk P w K mg base CX0 1 f fd ["deck", "many"] spTake := by
  refine F.ok scLawTake (fun vs H Q E h => ?_) (fun cdv A outer s H vs Q E hr h => ?_)
  · obtain ⟨a, l, m, rfl, _⟩ := h
    rfl
  · obtain ⟨a, l, m, rfl, ⟨ns, i, c, n, s, h1, hl, hal, hns, hi0, hil, hc0, hs0, hs1⟩, hm, hm2, k⟩ := h
    refine ⟨_, (pss_cons (ps_asg (pe_op op_add (pe_ix ix_list (pv 0) pe_int (fun _ _ => rfl)) pe_int) (pg_sub (pv 0) pe_int set_list))
      (C8.pss_cut (ps_if (PW.pt (pw_and (pt_cmpR op_eq (pe_ix ix_list (pv 0) pe_int (fun _ _ => rfl)) pe_int (nomark _)) (pw_and1 (pt_cmpR op_lt (pe_ix ix_list (pv 0) pe_int (fun _ _ => rfl)) (pe_callB call_len rfl T.len PySem.boot_len (pa_cons (pe_ix ix_list (pv 0) pe_int (fun _ _ => rfl)) pa_nil)) (nomark _))))) (pss_cons (ps_asg (pe_op op_add (pe_ix ix_list (pv 0) pe_int (fun _ _ => rfl)) pe_int) (pg_sub (pv 0) pe_int set_list))
      (pss_cons (ps_asg (pe_ix ix_list (pe_ix ix_list (pv 0) pe_int (fun _ _ => rfl)) (pe_op op_sub (pe_ix ix_list (pv 0) pe_int (fun _ _ => rfl)) pe_int) (fun _ _ => rfl)) (pg_sub (pv 0) pe_int set_list))
      (pss_one (ps_if (pt_cmpR op_lt (pe_ix ix_list (pv 0) pe_int (fun _ _ => rfl)) (pe_op op_pow pe_int pe_int) (nomark _)) (pss_cons (ps_asg (pe_op op_mod (pe_callTy call_int1 rfl T.int (by decide +kernel) (pa_cons (pe_op op_add (pe_op op_add (pe_op op_mul (pe_ix ix_list (pv 0) pe_int (fun _ _ => rfl)) pe_int) (pe_ix ix_list (pv 0) pe_int (fun _ _ => rfl))) pe_int) pa_nil)) pe_int) (pg_sub (pv 0) pe_int set_list))
      (pss_one (ps_asg pe_int (pg_sub (pv 0) pe_int set_list)))) pss_nil)))) pss_nil)
      (C8.pss_cut (ps_if (pt_cmpR op_gt (pe_ix ix_list (pv 0) pe_int (fun _ _ => rfl)) pe_int (nomark _)) (pss_cons (ps_set (i := 2) scLawTake.nd rfl (by first | exact Or.inl rfl | exact Or.inr rfl) (pe_op op_mod (pe_callTy call_int1 rfl T.int (by decide +kernel) (pa_cons (pe_ix ix_list (pv 0) pe_int (fun _ _ => rfl)) pa_nil)) (pv 1)))
      (pss_cons (ps_asg (pe_op op_fdiv (pe_ix ix_list (pv 0) pe_int (fun _ _ => rfl)) (pv 1)) (pg_sub (pv 0) pe_int set_list))
      (pss_one (ps_ret (pv 2))))) pss_nil)
      (C8.pss_cut (ps_set (i := 3) scLawTake.nd rfl (by first | exact Or.inl rfl | exact Or.inr rfl) (pe_op op_mod (pe_callTy call_int1 rfl T.int (by decide +kernel) (pa_cons (pe_op op_mul (pe_op op_add (pe_op op_add (pe_ix ix_list (pv 0) pe_int (fun _ _ => rfl)) (pe_op op_mul pe_int (pe_ix ix_list (pv 0) pe_int (fun _ _ => rfl)))) pe_int) pe_int) pa_nil)) pe_int))
      (C8.pss_cut (ps_set (i := 3) scLawTake.nd rfl (by first | exact Or.inl rfl | exact Or.inr rfl) (pe_op op_mod (pe_callTy call_int1 rfl T.int (by decide +kernel) (pa_cons (pe_op op_mul (pv 3) (pe_op op_add (pe_op op_fdiv (pv 3) pe_int) pe_int)) pa_nil)) pe_int))
      (C8.pss_cut (ps_set (i := 3) scLawTake.nd rfl (by first | exact Or.inl rfl | exact Or.inr rfl) (pe_op op_mod (pe_callTy call_int1 rfl T.int (by decide +kernel) (pa_cons (pe_op op_mul (pv 3) (pe_op op_add (pe_op op_fdiv (pv 3) pe_int) pe_int)) pa_nil)) pe_int))
      (pss_one (ps_ret (pe_op op_mod (pe_callTy call_int1 rfl T.int (by decide +kernel) (pa_cons (pe_op op_fdiv (pv 3) pe_int) pa_nil)) (pv 1)))))))))), ?_⟩
    refine ⟨_, rfl, a, _, _, _, rfl, rfl, SqL.of h1, at_of (j := 3) rfl rfl, _, _, rfl, rfl, _, rfl, a, _, _, 3, rfl, rfl, h1, rfl, ?_⟩
    generalize hH2 : upd H a _ = H2
    have e2 : H2 a = some (.lst [.ref l, .int i, .int c, .int (n + 1), .int s]) := by rw [← hH2]; exact upd_same
    have o2 : ∀ b, b ≠ a → H2 b = H b := fun b hb => by rw [← hH2]; exact upd_ne hb
    clear hH2
    refine ⟨fun σ' H3 => σ' = [some (.ref a), some (.int m), none, none] ∧ ∃ (i c n s : Int), H3 a = some (.lst [.ref l, .int i, .int c, .int n, .int s]) ∧ 0 ≤ i ∧ i ≤ (ns.length : Int) ∧ 0 ≤ c ∧ 0 ≤ s ∧ s < 2147483647 ∧ ∀ b, b ≠ a → H3 b = H b, ?_, ?_⟩
    · refine ⟨_, rfl, a, _, _, _, rfl, rfl, SqL.of e2, at_of (j := 2) rfl rfl, rfl, _, rfl, ?_⟩
      refine ite2 (fun hc => ?_) (fun _ => ?_)
      · have hc : c = 0 := by simpa using hc
        have hl2 : H2 l = some (.lst (ns.map V.int)) := by rw [o2 l (Ne.symm hal)]; exact hl
        refine ⟨_, rfl, a, _, _, _, rfl, rfl, SqL.of e2, at_of (j := 1) rfl rfl, _, rfl, a, _, _, _, rfl, rfl, SqL.of e2, at_of (j := 0) rfl rfl, _, _, rfl, .inl ⟨_, SqL.of hl2, rfl⟩, _, _, rfl, rfl, _, rfl, ?_⟩
        refine ite2 (fun hi => ?_) (fun _ => ?_)
        · have hi : i < (ns.length : Int) := by simpa using hi
          refine ⟨_, rfl, a, _, _, _, rfl, rfl, SqL.of e2, at_of (j := 1) rfl rfl, _, _, rfl, rfl, _, rfl, a, _, _, 1, rfl, rfl, e2, rfl, ?_⟩
          generalize hH3 : upd H2 a _ = H3
          have e3 : H3 a = some (.lst [.ref l, .int (i + 1), .int c, .int (n + 1), .int s]) := by rw [← hH3]; exact upd_same
          have o3 : ∀ b, b ≠ a → H3 b = H b := fun b hb => by rw [← hH3, upd_ne hb]; exact o2 b hb
          clear hH3
          have hl3 : H3 l = some (.lst (ns.map V.int)) := by rw [o3 l (Ne.symm hal)]; exact hl
          obtain ⟨j, ej⟩ : ∃ j : Nat, i = (j : Int) := ⟨i.toNat, by omega⟩
          have hj : j < ns.length := by omega
          have hnz : 0 ≤ ns[j] := hns _ (List.getElem_mem hj)
          refine ⟨_, rfl, a, _, _, _, rfl, rfl, SqL.of e3, at_of (j := 0) rfl rfl, _, rfl, a, _, _, _, rfl, rfl, SqL.of e3, at_of (j := 1) rfl rfl, _, _, rfl, rfl, l, _, _, _, rfl, rfl, SqL.of hl3, at_of (j := j) (v := V.int ns[j]) (by omega) (by rw [List.getElem?_map, List.getElem?_eq_getElem hj]; rfl), _, rfl, a, _, _, 2, rfl, rfl, e3, rfl, ?_⟩
          generalize hH4 : upd H3 a _ = H4
          generalize hz : ns[j] = z at *
          have e4 : H4 a = some (.lst [.ref l, .int (i + 1), .int z, .int (n + 1), .int s]) := by rw [← hH4]; exact upd_same
          have o4 : ∀ b, b ≠ a → H4 b = H b := fun b hb => by rw [← hH4, upd_ne hb]; exact o3 b hb
          clear hH4
          refine ⟨_, rfl, a, _, _, _, rfl, rfl, SqL.of e4, at_of (j := 2) rfl rfl, _, _, rfl, rfl, ⟨by decide, by decide, by decide⟩, _, _, rfl, rfl, _, rfl, ?_⟩
          refine ite2 (fun _ => ?_) (fun _ => ?_)
          · refine ⟨_, rfl, a, _, _, _, rfl, rfl, SqL.of e4, at_of (j := 4) rfl rfl, _, _, rfl, rfl, .inr ⟨by decide, by decide⟩, _, rfl, a, _, _, _, rfl, rfl, SqL.of e4, at_of (j := 2) rfl rfl, _, _, rfl, rfl, _, _, rfl, rfl, .inl ⟨_, rfl, _, _, rfl, rfl, (by show (0 : Int) < 2147483647; decide), _, rfl, a, _, _, 4, rfl, rfl, e4, rfl, ?_⟩⟩
            refine ⟨_, rfl, a, _, _, 2, rfl, rfl, upd_same, rfl, rfl, ?_⟩
            obtain ⟨b1, b2⟩ := mod_bd (s * 69621 + z + 1) (m := 2147483647) (by decide)
            exact ⟨i + 1, 0, n + 1, _, upd_same, by omega, by omega, by decide, b1, b2, fun b hb => by rw [upd_ne hb, upd_ne hb]; exact o4 b hb⟩
          · exact ⟨rfl, i + 1, z, n + 1, s, e4, by omega, by omega, hnz, hs0, hs1, o4⟩
        · exact ⟨rfl, i, c, n + 1, s, e2, hi0, hil, hc0, hs0, hs1, o2⟩
      · exact ⟨rfl, i, c, n + 1, s, e2, hi0, hil, hc0, hs0, hs1, o2⟩
    · rintro σ' H3 ⟨rfl, i, c, n, s, e3, hi0, hil, hc0, hs0, hs1, o3⟩
      have fin : ∀ (d i c n s : Int) (H' : Hp), 0 ≤ d → d < m → H' a = some (.lst [.ref l, .int i, .int c, .int n, .int s]) → 0 ≤ i → i ≤ (ns.length : Int) → 0 ≤ c → 0 ≤ s → s < 2147483647 → (∀ b, b ≠ a → H' b = H b) → Q (.int d) H' :=
        fun d i c n s H' d0 d1 e i0 i1 c0 s0 s1 o => k d H' d0 d1 ⟨ns, i, c, n, s, e, by rw [o l (Ne.symm hal)]; exact hl, hal, hns, i0, i1, c0, s0, s1⟩ (fun b u h hb => by rw [o b hb]; exact h) o
      refine ⟨fun σ' H4 => σ' = [some (.ref a), some (.int m), none, none] ∧ H4 = H3, ?_, ?_⟩
      · refine ⟨_, rfl, a, _, _, _, rfl, rfl, SqL.of e3, at_of (j := 2) rfl rfl, _, _, rfl, rfl, _, rfl, ?_⟩
        refine ite2 (fun _ => ?_) (fun _ => ⟨rfl, rfl⟩)
        obtain ⟨b1, b2⟩ := mod_bd c hm
        refine ⟨_, rfl, a, _, _, _, rfl, rfl, SqL.of e3, at_of (j := 2) rfl rfl, .inl ⟨_, rfl, _, rfl, _, _, rfl, rfl, hm, ?_⟩⟩
        refine ⟨_, rfl, a, _, _, _, rfl, rfl, SqL.of e3, at_of (j := 2) rfl rfl, _, rfl, _, _, rfl, rfl, ⟨hm, hm2⟩, _, rfl, a, _, _, 2, rfl, rfl, e3, rfl, _, rfl, ?_⟩
        exact fin _ i (c / m) n s _ b1 b2 upd_same hi0 hil (Int.ediv_nonneg hc0 (by omega)) hs0 hs1 fun b hb => by rw [upd_ne hb]; exact o3 b hb
      · rintro σ' H4 ⟨rfl, rfl⟩
        have bd : ∀ x : Int, 0 ≤ x % 2147483647 ∧ x % 2147483647 < 2147483647 := fun x => mod_bd x (by decide)
        have bd2 : ∀ x : Int, 0 ≤ x % 2147483399 ∧ x % 2147483399 < 2147483399 := fun x => mod_bd x (by decide)
        refine ⟨fun σ' H5 => ∃ x : Int, 0 ≤ x ∧ x < 2147483647 ∧ σ' = [some (.ref a), some (.int m), none, some (.int x)] ∧ H5 = H4, ?_, ?_⟩
        · refine ⟨_, rfl, a, _, _, _, rfl, rfl, SqL.of e3, at_of (j := 4) rfl rfl, _, rfl, a, _, _, _, rfl, rfl, SqL.of e3, at_of (j := 3) rfl rfl, _, _, rfl, rfl, .inl ⟨by decide, by decide⟩, _, _, rfl, rfl, _, _, rfl, rfl, _, _, rfl, rfl, .inr ⟨by decide, by decide⟩, .inl ⟨_, rfl, _, _, rfl, rfl, (by show (0 : Int) < 2147483647; decide), ?_⟩⟩
          exact ⟨_, (bd _).1, (bd _).2, rfl, rfl⟩
        rintro σ' H5 ⟨x1, q1, q1', rfl, rfl⟩
        refine ⟨fun σ' H5' => ∃ x : Int, 0 ≤ x ∧ x < 2147483647 ∧ σ' = [some (.ref a), some (.int m), none, some (.int x)] ∧ H5' = H5, ?_, ?_⟩
        · refine ⟨_, rfl, _, rfl, _, _, rfl, rfl, ⟨by decide, by decide⟩, _, _, rfl, rfl, _, _, rfl, rfl, .inl ⟨by omega, by omega⟩, .inl ⟨_, rfl, _, _, rfl, rfl, (by show (0 : Int) < 2147483647; decide), ?_⟩⟩
          exact ⟨_, (bd _).1, (bd _).2, rfl, rfl⟩
        rintro σ' H6 ⟨x2, q2, q2', rfl, rfl⟩
        refine ⟨fun σ' H5' => ∃ x : Int, σ' = [some (.ref a), some (.int m), none, some (.int x)] ∧ H5' = H6, ?_, ?_⟩
        · refine ⟨_, rfl, _, rfl, _, _, rfl, rfl, ⟨by decide, by decide⟩, _, _, rfl, rfl, _, _, rfl, rfl, .inl ⟨by omega, by omega⟩, .inl ⟨_, rfl, _, _, rfl, rfl, (by show (0 : Int) < 2147483399; decide), ?_⟩⟩
          exact ⟨_, rfl, rfl⟩
        rintro σ' H7 ⟨x3, rfl, rfl⟩
        refine ⟨_, rfl, _, _, rfl, rfl, ⟨by decide, by decide⟩, .inl ⟨_, rfl, _, rfl, _, _, rfl, rfl, hm, ?_⟩⟩
        obtain ⟨b1, b2⟩ := mod_bd (x3 / 32) hm
        exact fin _ i c n s _ b1 b2 e3 hi0 hil hc0 hs0 hs1 o3
end
end Xci

namespace Xci
open PySem L2

section
variable {P : Program} {w : World} {K : PySem.W.Frag} {mg : Str → Option Value} {base : Heap}
abbrev sLawDeck : Stmt := top 29
theorem scLawDeck : FnScope ["script", "state", "cell"] ["script"] (defScope sLawDeck) := ⟨rfl, rfl, rfl, by decide +kernel, rfl, by decide +kernel, by decide +kernel⟩

theorem ok_deck {f : Addr} {fd : FuncData} (F : Fun K "_law_deck" "_law_deck" sLawDeck f fd) (T : Txt mg) : FnOk P w K mg base CX0 1 f fd ["script"] (spDeck K) := by
  refine F.ok scLawDeck (fun vs H Q E h => ?_) (fun cdv A outer s H vs Q E hr h => ?_)
  · obtain ⟨a, m, rfl, _⟩ := h
    rfl
  · obtain ⟨a, ns, rfl, hS, hlen, k⟩ := h
    refine ⟨_, (pss_cons (ps_set (i := 1) scLawDeck.nd rfl (by first | exact Or.inl rfl | exact Or.inr rfl) (pe_op op_add (pe_callB call_len rfl T.len PySem.boot_len (pa_cons (pv 0) pa_nil)) pe_int))
      (pss_cons (ps_for PassesOwn.never rfl (pi_list (pe_slice sl_list (pv 0) po_none (po_some pe_int))) (pg_name (i := 2) scLawDeck.nd rfl (by first | exact Or.inl rfl | exact Or.inr rfl)) (pss_one (ps_set (i := 1) scLawDeck.nd rfl (by first | exact Or.inl rfl | exact Or.inr rfl) (pe_op op_mod (pe_callTy call_int1 rfl T.int (by decide +kernel) (pa_cons (pe_op op_add (pe_op op_add (pe_op op_mul (pv 1) pe_int) (pe_op op_mul (pe_callTy call_int1 rfl T.int (by decide +kernel) (pa_cons (pv 2) pa_nil)) pe_int)) pe_int) pa_nil)) pe_int))))
      (pss_one (ps_ret (pe_lst (pa_cons (pe_lc (own := [("cell", 2)]) rfl scLawDeck.nd (pi_list (pe_slice sl_list (pv 0) po_none (po_some pe_int))) (blkOk_by (N := ["script", "state", "cell"]) (sc := defScope sLawDeck) (by decide +kernel)) (fun _ _ _ _ _ => (pg_name (i := 2) scLawDeck.nd rfl (by first | exact Or.inl rfl | exact Or.inr rfl))) (fun _ _ _ _ _ => pts_nil) (fun _ _ _ _ _ => (pe_callB call_abs rfl T.abs (by decide +kernel) (pa_cons (pe_callTy call_int1 rfl T.int (by decide +kernel) (pa_cons (pv 2) pa_nil)) pa_nil)))) (pa_cons pe_int (pa_cons pe_int (pa_cons pe_int (pa_cons (pv 1) pa_nil)))))))))), ?_⟩
    refine ⟨_, rfl, _, _, rfl, .inl ⟨_, hS, rfl⟩, _, _, rfl, rfl, ?_⟩
    refine ⟨_, rfl, _, rfl, _, _, rfl, hS, fun p hp => ⟨_, rfl, ⟨_, SqL.of upd_same⟩, ?_⟩⟩
    have sp0 : Same H (upd H p (.lst (cutV (ns.map V.int) none (some 63)))) := Same.new hp
    generalize hH1 : upd H p (.lst (cutV (ns.map V.int) none (some 63))) = H1 at sp0
    have e1 : H1 p = some (.lst ((ns.take 63).map V.int)) := by rw [← hH1, cut63]; exact upd_same
    clear hH1
    refine for_list (K := K) (a := p) (xs := (ns.take 63).map V.int) (fun i σ H2 => H2 = H1 ∧ ∃ (z : Int) (v : Option V), σ = [some (.ref a), some (.int z), v] ∧ (0 ≤ z ∧ z < 2147483647 ∨ z = (ns.length : Int) + 1)) ⟨rfl, _, none, rfl, .inr (by simp)⟩ (fun i σ H2 _ ⟨e, _⟩ => by rw [e]; exact SqL.of e1) ?_ ?_
    · rintro i y σ H2 hi ⟨rfl, z, v, rfl, hz⟩
      obtain ⟨c, hc, rfl⟩ := int_of hi
      refine ⟨_, rfl, _, _, rfl, rfl, .inr ⟨by decide, by decide⟩, _, rfl, .inl ⟨_, rfl, _, _, rfl, rfl, .inr ⟨by decide, by decide⟩, _, _, rfl, rfl, _, _, rfl, rfl, .inl ⟨_, rfl, _, _, rfl, rfl, (by show (0 : Int) < 2147483647; decide), ?_⟩⟩⟩
      obtain ⟨b1, b2⟩ := mod_bd (z * 48271 + c * 69621 + 7) (m := 2147483647) (by decide)
      exact ⟨rfl, _, some (.int c), rfl, .inl ⟨b1, b2⟩⟩
    · rintro σ H2 ⟨rfl, z, v, rfl, hz⟩
      have hS2 : SqL K H2 a (ns.map V.int) := sp0.seq hS
      refine ⟨_, rfl, _, rfl, _, _, rfl, hS2, fun p2 hp2 => ⟨_, rfl, ⟨_, SqL.of upd_same⟩, ?_⟩⟩
      intro D hD
      have sp1 : Same H2 (upd H2 p2 (.lst (cutV (ns.map V.int) none (some 63)))) := Same.new hp2
      generalize hH3 : upd H2 p2 (.lst (cutV (ns.map V.int) none (some 63))) = H3 at sp1 hD
      have e3 : H3 p2 = some (.lst ((ns.take 63).map V.int)) := by rw [← hH3, cut63]; exact upd_same
      clear hH3
      have nD : p2 ≠ D := ne_of_none e3 hD
      refine lc_list (K := K) (a := p2) (xs := (ns.take 63).map V.int) (fun i H4 => ∃ zs : List Int, Same H3 H4 ∧ H4 D = some (.lst (zs.map V.int)) ∧ zs.length = i ∧ ∀ z ∈ zs, 0 ≤ z) ⟨[], Same.new hD, upd_same, rfl, by simp⟩ (fun i H4 _ ⟨_, e, _⟩ => SqL.of (e _ _ e3)) ?_ ?_
      · rintro i y H4 hi ⟨zs, sm, e4, hz4, hpos⟩
        obtain ⟨c, hc, rfl⟩ := int_of hi
        have hi63 : i < 63 := by
          have q := (List.getElem?_eq_some_iff.mp hc).1
          rw [List.length_take] at q
          omega
        refine ⟨rfl, _, rfl, .inl ⟨_, rfl, _, rfl, _, e4, by rw [List.length_map, hz4]; exact small1000 (by omega), ?_⟩⟩
        refine ⟨zs ++ [if c < 0 then -c else c], fun b o h => ?_, by rw [upd_same, List.map_append]; rfl, by rw [List.length_append, hz4]; rfl, fun z hz => ?_⟩
        · rw [upd_ne (ne_of_none h hD)]; exact sm b o h
        · rcases List.mem_append.mp hz with q | q
          · exact hpos z q
          · rw [List.mem_singleton.mp q]
            split <;> omega
      · rintro H4 ⟨zs, sm, e4, hz4, hpos⟩
        refine ⟨_, rfl, (by show 5 ≤ sizeLine; decide), fun q hq => ?_⟩
        refine k q D _ ⟨zs, 0, 0, 0, z, upd_same, ?_, ?_, hpos, by omega, by omega, by omega, by omega, by omega⟩ ?_
        · rw [upd_ne (ne_of_none e4 hq)]; exact e4
        · exact (ne_of_none e4 hq).symm
        · exact fun b o h => by rw [upd_ne (ne_of_none (sm _ _ (sp1 _ _ (sp0 _ _ h))) hq)]; exact sm _ _ (sp1 _ _ (sp0 _ _ h))
end
end Xci

namespace Xci
open PySem L2

section
variable {P : Program} {w : World} {K : PySem.W.Frag} {mg : Str → Option Value} {base : Heap}
abbrev sLawMixed : Stmt := top 31
theorem scLawMixed : FnScope ["deck", "things", "left", "found", "turn"] ["deck", "things"] (defScope sLawMixed) := ⟨rfl, rfl, rfl, by decide +kernel, rfl, by decide +kernel, by decide +kernel⟩

theorem ok_mixed {f : Addr} {fd : FuncData} (F : Fun K "_law_mixed" "_law_mixed" sLawMixed f fd) (T : Txt mg) (HT : Has P w K mg base "_law_take" ["deck", "many"] 1 spTake) : FnOk P w K mg base CX0 2 f fd ["deck", "things"] (spMixed K) := by
  refine F.ok scLawMixed (fun vs H Q E h => ?_) (fun cdv A outer s H vs Q E hr h => ?_)
  · obtain ⟨a, ld, p, xs, rfl, _⟩ := h
    rfl
  · obtain ⟨a, ld, p, xs, rfl, hd, hS, hlen, k⟩ := h
    refine ⟨_, (pss_cons (ps_set (i := 2) scLawMixed.nd rfl (by first | exact Or.inl rfl | exact Or.inr rfl) (pe_callTy call_list_of rfl T.list (by decide +kernel) (pa_cons (pv 1) pa_nil)))
      (pss_cons (ps_set (i := 3) scLawMixed.nd rfl (by first | exact Or.inl rfl | exact Or.inr rfl) (pe_lst pa_nil))
      (pss_cons (ps_for PassesOwn.never rfl (pi_range1 rfl T.range (pa_cons (pe_callB call_len rfl T.len PySem.boot_len (pa_cons (pv 1) pa_nil)) pa_nil)) (pg_name (i := 4) scLawMixed.nd rfl (by first | exact Or.inl rfl | exact Or.inr rfl)) (pss_one (ps_expr (pe_bm PySem.F.plainAttrs_list PySem.F.slot_list_append PySem.F.type_list_append mt_append (pv 3) (pa_cons (pe_bm PySem.F.plainAttrs_list PySem.F.slot_list_pop PySem.F.type_list_pop mt_popAt (pv 2) (pa_cons (pe_callH HT (hr.mono (by decide)) rfl (pa_cons (pv 0) (pa_cons (pe_callB call_len rfl T.len PySem.boot_len (pa_cons (pv 2) pa_nil)) pa_nil))) pa_nil)) pa_nil)))))
      (pss_one (ps_ret (pv 3)))))), ?_⟩
    refine ⟨_, rfl, p, xs, rfl, hS, fun l hl => ?_⟩
    refine ⟨Nat.zero_le _, fun q hq => ?_⟩
    have d1 : Deck (upd (upd H l (.lst xs)) q (.lst [])) a ld := (hd.keep (Same.new hl)).keep (Same.new hq)
    have f1 : Fr a H (upd (upd H l (.lst xs)) q (.lst [])) := (Fr.new hl).trans (Fr.new hq)
    have nl : l ≠ a := hd.ne hl
    have hq0 : H q = Option.none := (Same.new hl).free hq
    have nq : q ≠ a := hd.ne hq0
    have ml : l ≠ ld := hd.ne' hl
    have mq : q ≠ ld := hd.ne' hq0
    have nlq : l ≠ q := ne_of_none upd_same hq
    have el : (upd (upd H l (.lst xs)) q (.lst [])) l = some (.lst xs) := by rw [upd_ne nlq]; exact upd_same
    have eq : (upd (upd H l (.lst xs)) q (.lst [])) q = some (.lst []) := upd_same
    have hS1 : Sq K (upd (upd H l (.lst xs)) q (.lst [])) p xs := by
      rcases hS with h | h
      · exact .inl (Same.seq (Same.new hq) (Same.seq (Same.new hl) h))
      · exact .inr (sqT_same (sqT_same h (Same.new hl)) (Same.new hq))
    generalize upd (upd H l (.lst xs)) q (.lst []) = H1 at *
    refine ⟨_, rfl, _, xs.length, rfl, ?_, _, rfl, by omega, by omega, ?_⟩
    · exact hS1.elim (fun h => .inl ⟨_, h, rfl⟩) (fun h => .inr ⟨_, h, rfl⟩)
    refine for_range (n := (xs.length : Int).toNat) (fun i σ H2 => ∃ (us ys : List V) (v : Option V), σ = [some (.ref a), some (.ref p), some (.ref l), some (.ref q), v] ∧ H2 l = some (.lst us) ∧ H2 q = some (.lst ys) ∧ Deck H2 a ld ∧ (∀ b o, H b = some o → b ≠ a → H2 b = some o) ∧ (ys ++ us).Perm xs ∧ ys.length = i)
      ⟨xs, [], none, rfl, el, eq, d1, f1, List.Perm.refl _, rfl⟩ ?_ ?_
    · rintro i σ H2 hi ⟨us, ys, v, rfl, e1, e2, hd2, f2, pm, hy⟩
      have hlen2 := pm.length_eq
      rw [List.length_append] at hlen2
      have hus : 0 < us.length := by omega
      refine ⟨_, rfl, .inl ⟨rfl, _, SqL.of e2⟩, _, rfl, .inl ⟨rfl, _, SqL.of e1⟩, _, rfl, _, rfl, _, us.length, rfl, .inl ⟨_, SqL.of e1, rfl⟩, a, ld, _, rfl, hd2, by omega, by omega, fun d H3 d0 d1 hd3 f3 _ => ?_⟩
      obtain ⟨j, ej⟩ : ∃ j : Nat, d = (j : Int) := ⟨d.toNat, by omega⟩
      subst ej
      have hj : j < us.length := by omega
      have e1' : H3 l = some (.lst us) := f3 _ _ e1 nl
      have e2' : H3 q = some (.lst ys) := f3 _ _ e2 nq
      have hx : us[j]? = some us[j] := List.getElem?_eq_getElem hj
      refine ⟨l, us, _, j, us[j], rfl, rfl, e1', by omega, by omega, ?_, hx, ?_⟩
      · unfold seqIndex?
        simp
        try omega
      refine ⟨q, ys, _, rfl, rfl, by rw [upd_ne nlq.symm]; exact e2', small1000 (by omega), ?_⟩
      refine ⟨us.eraseIdx j, ys ++ [us[j]], _, rfl, by rw [upd_ne nlq]; exact upd_same, upd_same, ?_, fun b o h n => ?_, ?_, by rw [List.length_append, hy]; rfl⟩
      · exact (hd3.put nl ml).put nq mq
      · have nbl : b ≠ l := ne_of_none h hl
        have nbq : b ≠ q := ne_of_none h hq0
        rw [upd_ne nbq, upd_ne nbl]
        exact f3 _ _ (f2 _ _ h n) n
      · have p1 := perm_erase hx
        have p2 : (ys ++ [us[j]] ++ us.eraseIdx j).Perm (ys ++ us) := by
          rw [List.append_assoc]
          exact (List.perm_append_comm.trans p1).append_left ys
        exact p2.trans pm
    · rintro σ H2 ⟨us, ys, v, rfl, e1, e2, hd2, f2, pm, hy⟩
      have hlen2 := pm.length_eq
      rw [List.length_append] at hlen2
      have hus : us = [] := List.eq_nil_of_length_eq_zero (by omega)
      subst hus
      rw [List.append_nil] at pm
      exact ⟨_, rfl, k q ys H2 pm e2 hq0 hd2 f2⟩
end
end Xci

namespace Xci
open PySem L2

section
variable {P : Program} {w : World} {K : PySem.W.Frag} {mg : Str → Option Value} {base : Heap}
abbrev sLawWord : Stmt := top 32
theorem scLawWord : FnScope ["deck", "size", "sign"] ["deck"] (defScope sLawWord) := ⟨rfl, rfl, rfl, by decide +kernel, rfl, by decide +kernel, by decide +kernel⟩

theorem join_letters (cs : List Nat) : (PySem.Txt.join (PySem.Str.ofString "") (cs.map fun c => (⟨#[c]⟩ : Str))).cps.toList = cs := by
  show (Builtin.Str.glued (PySem.Str.ofString "") _).cps.toList = _
  rw [StrLaws.glued_eq_join]
  induction cs with
  | nil => rfl
  | cons c r ih =>
    cases r with
    | nil => rfl
    | cons d r =>
      show ((⟨#[c]⟩ : Str) ++ PySem.Str.ofString "" ++ PySem.Str.join (PySem.Str.ofString "") ((d :: r).map fun c => (⟨#[c]⟩ : Str))).cps.toList = _
      have e : ∀ a b : Str, (a ++ b).cps = a.cps ++ b.cps := fun _ _ => rfl
      rw [e, e, Array.toList_append, Array.toList_append, ih]
      rfl
theorem sum_ones (cs : List Nat) : ((cs.map fun c => (⟨#[c]⟩ : Str)).map (·.length)).sum = cs.length := by
  induction cs with
  | nil => rfl
  | cons c r ih =>
    rw [List.map_cons, List.map_cons, List.sum_cons, ih, List.length_cons]
    have : (⟨#[c]⟩ : Str).length = 1 := rfl
    rw [this]
    omega
theorem letter_at {j : Nat} (h : j < 26) : ("abcdefghijklmnopqrstuvwxyz" : Str).cps.toList[j]? = some (97 + j) := by
  have : ∀ j : Fin 26, ("abcdefghijklmnopqrstuvwxyz" : Str).cps.toList[j.val]? = some (97 + j.val) := by decide +kernel
  exact this ⟨j, h⟩
theorem ok_word {f : Addr} {fd : FuncData} (F : Fun K "_law_word" "_law_word" sLawWord f fd) (T : Txt mg) (HT : Has P w K mg base "_law_take" ["deck", "many"] 1 spTake) : FnOk P w K mg base CX0 2 f fd ["deck"] spWord := by
  refine F.ok scLawWord (fun vs H Q E h => ?_) (fun cdv A outer s H vs Q E hr h => ?_)
  · obtain ⟨a, ld, rfl, _⟩ := h
    rfl
  · obtain ⟨a, ld, rfl, hd, k⟩ := h
    refine ⟨_, (pss_cons (ps_set (i := 1) scLawWord.nd rfl (by first | exact Or.inl rfl | exact Or.inr rfl) (pe_op op_add pe_int (pe_callH HT (hr.mono (by decide)) rfl (pa_cons (pv 0) (pa_cons (pe_op op_add pe_int (pe_op op_mul pe_int (pe_callTy call_int1 rfl T.int (by decide +kernel) (pa_cons (pe_cmpR op_eq (pe_callH HT (hr.mono (by decide)) rfl (pa_cons (pv 0) (pa_cons pe_int pa_nil))) pe_int (nomark _)) pa_nil)))) pa_nil)))))
      (pss_one (ps_ret (pe_bm PySem.F.plainAttrs_str PySem.F.slot_str_join PySem.F.type_str_join mt_join pe_str (pa_cons (pe_lc (own := [("sign", 2)]) rfl scLawWord.nd (pi_range1 rfl T.range (pa_cons (pv 1) pa_nil)) (blkOk_by (N := ["deck", "size", "sign"]) (sc := defScope sLawWord) (by decide +kernel)) (fun _ _ _ _ _ => (pg_name (i := 2) scLawWord.nd rfl (by first | exact Or.inl rfl | exact Or.inr rfl))) (fun _ _ _ _ _ => pts_nil) (fun _ _ _ _ _ => (pe_ix ix_str pe_str (pe_callH HT (hr.mono (by decide)) rfl (pa_cons (pv 0) (pa_cons pe_int pa_nil))) (fun _ _ => rfl)))) pa_nil))))), ?_⟩
    refine ⟨_, rfl, _, rfl, a, ld, _, rfl, hd, by decide, by decide, fun d0 H1 _ _ hd1 f1 _ => ?_⟩
    refine ⟨rfl, .inr ⟨_, rfl, _, _, rfl, rfl, .inl ⟨by decide, by decide⟩, _, _, rfl, rfl, ?_⟩⟩
    have hb : ∀ b : Bool, 2 ≤ (2 + 6 * (if b = true then 1 else 0) : Int) ∧ (2 + 6 * (if b = true then 1 else 0) : Int) ≤ 8 := by decide
    obtain ⟨m0, m1⟩ := hb (decide (V.int d0 = V.int 0))
    refine ⟨a, ld, _, rfl, hd1, Int.lt_of_lt_of_le (by decide) m0, Int.lt_of_le_of_lt m1 (by decide), fun d1 H2 d10 d11 hd2 f2 _ => ?_⟩
    have d18 : d1 < 8 := Int.lt_of_lt_of_le d11 m1
    refine ⟨_, _, rfl, rfl, ?_⟩
    have fr : Fr a H H2 := f1.trans f2
    refine ⟨rfl, _, rfl, _, rfl, by omega, by omega, fun D hD => ?_⟩
    have hD0 := hd2.free fr hD
    refine lc_range (n := (1 + d1).toNat) (fun i H4 => ∃ cs : List Nat, Deck H4 a ld ∧ Fr a H H4 ∧ H4 D = some (.lst ((cs.map fun c => (⟨#[c]⟩ : Str)).map V.str)) ∧ cs.length = i ∧ ∀ c ∈ cs, 97 ≤ c ∧ c ≤ 122) ⟨[], hd2.keep (Same.new hD), fr.trans (Fr.new hD), upd_same, rfl, by simp⟩ ?_ ?_
    · rintro i H4 hi ⟨cs, hd4, f4, e4, hl, hz⟩
      refine ⟨rfl, _, rfl, a, ld, _, rfl, hd4, by decide, by decide, fun d H5 d0 d1 hd5 f5 _ => ?_⟩
      obtain ⟨j, ej⟩ : ∃ j : Nat, d = (j : Int) := ⟨d.toNat, by omega⟩
      subst ej
      have hj : j < 26 := by omega
      have nD := hd.ne hD0
      refine ⟨_, _, _, rfl, rfl, by decide +kernel, atI_nat (letter_at hj), _, f5 _ _ e4 nD, by rw [List.length_map, List.length_map]; exact small1000 (by omega), ?_⟩
      refine ⟨cs ++ [97 + j], hd5.put nD (hd.ne' hD0), fun b o h n => ?_, by rw [upd_same, List.map_append, List.map_append]; rfl, by rw [List.length_append, hl]; rfl, fun c hc => ?_⟩
      · rw [upd_ne (ne_of_none h hD0)]; exact f5 _ _ (f4 _ _ h n) n
      · rcases List.mem_append.mp hc with q | q
        · exact hz c q
        · rw [List.mem_singleton.mp q]; omega
    · rintro H4 ⟨cs, hd4, f4, e4, hl, hz⟩
      refine ⟨_, D, _, rfl, rfl, .inl (SqL.of e4), ?_, ?_⟩
      · rw [sum_ones, List.length_map]
        have : (Str.ofString "").length = 0 := by decide
        rw [this]
        omega
      · refine k _ H4 ?_ hd4 f4
        have el := join_letters cs
        have ez : (PySem.Txt.join (PySem.Str.ofString "") (cs.map fun c => (⟨#[c]⟩ : Str))).length = cs.length := by
          show (PySem.Txt.join (PySem.Str.ofString "") (cs.map fun c => (⟨#[c]⟩ : Str))).cps.size = _
          rw [← Array.length_toList, el]
        exact ⟨by rw [ez]; omega, by rw [ez]; omega, fun c hc => hz c (by rw [el] at hc; exact hc)⟩
end
end Xci

namespace Xci
open PySem L2

section
variable {P : Program} {w : World} {K : PySem.W.Frag} {mg : Str → Option Value} {base : Heap}
abbrev sLawLots : Stmt := top 34
theorem scLawLots : FnScope ["items", "found", "item", "lot"] ["items"] (defScope sLawLots) := ⟨rfl, rfl, rfl, by decide +kernel, rfl, by decide +kernel, by decide +kernel⟩

theorem ok_lots {f : Addr} {fd : FuncData} (F : Fun K "_law_lots" "_law_lots" sLawLots f fd) : FnOk P w K mg base CX0 1 f fd ["items"] (spLots K) := by
  refine F.ok scLawLots (fun vs H Q E h => ?_) (fun cdv A outer s H vs Q E hr h => ?_)
  · obtain ⟨p, ns, rfl, _⟩ := h
    rfl
  · obtain ⟨p, ns, rfl, hS, hlen, k⟩ := h
    refine ⟨_, (pss_cons (ps_set (i := 1) scLawLots.nd rfl (by first | exact Or.inl rfl | exact Or.inr rfl) (pe_lst (pa_cons (pe_tup pa_nil) pa_nil)))
      (pss_cons (ps_for PassesOwn.never rfl (pi_tup (pv 0)) (pg_name (i := 2) scLawLots.nd rfl (by first | exact Or.inl rfl | exact Or.inr rfl)) (pss_one (ps_set (i := 1) scLawLots.nd rfl (by first | exact Or.inl rfl | exact Or.inr rfl) (pe_op op_cat (pv 1) (pe_lc (own := [("lot", 3)]) rfl scLawLots.nd (pi_list (pv 1)) (blkOk_by (N := ["items", "found", "item", "lot"]) (sc := defScope sLawLots) (by decide +kernel)) (fun _ _ _ _ _ => (pg_name (i := 3) scLawLots.nd rfl (by first | exact Or.inl rfl | exact Or.inr rfl))) (fun _ _ _ _ _ => pts_nil) (fun _ _ _ _ _ => (pe_op (show OpR _ _ (rCatA K) from op_catA) (pv 3) (pe_tup (pa_cons (pv 2) pa_nil)))))))))
      (pss_one (ps_ret (pv 1))))), ?_⟩
    refine ⟨Nat.zero_le _, fun t ht => ⟨(by show 1 ≤ sizeLine; decide), fun q hq => ?_⟩⟩
    have s0 : Same H (upd (upd H t (.tup [])) q (.lst [.ref t])) := (Same.new ht).trans (Same.new hq)
    have et : (upd (upd H t (.tup [])) q (.lst [.ref t])) t = some (.tup []) := by rw [upd_ne (ne_of_none upd_same hq)]; exact upd_same
    have hq0 : H q = Option.none := (Same.new ht).free hq
    have eq : (upd (upd H t (.tup [])) q (.lst [.ref t])) q = some (.lst [.ref t]) := upd_same
    generalize upd (upd H t (.tup [])) q (.lst [.ref t]) = H1 at *
    refine ⟨_, rfl, p, rfl, ⟨_, sqT_same hS s0⟩, for_tup (K := K) (a := p) (xs := ns.map V.int) (fun i σ H2 => ∃ (u : Addr) (ys : List V) (v : Option V), σ = [some (.ref p), some (.ref u), v, none] ∧ Same H H2 ∧ H u = Option.none ∧ H2 u = some (.lst ys) ∧ Mks H2 ys (lots (ns.take i)))
      ⟨q, [.ref t], none, rfl, s0, hq0, eq, Paired.one ⟨t, rfl, et⟩⟩ (fun i σ H2 _ ⟨_, _, _, _, e, _⟩ => sqT_same hS e) ?_ ?_⟩
    · rintro i y σ H2 hi ⟨u, ys, v, rfl, sm, hu0, eu, hm⟩
      obtain ⟨x, hx, rfl⟩ := int_of hi
      have hlt := (List.getElem?_eq_some_iff.mp hx).1
      have hys : ys.length ≤ 64 := by
        have e := Paired.length hm
        rw [lots_len, List.length_take] at e
        have : 2 ^ min i ns.length ≤ 2 ^ 6 := Nat.pow_le_pow_right (by decide) (by omega)
        omega
      refine ⟨_, rfl, _, rfl, u, rfl, ⟨_, SqL.of eu⟩, fun D hD => ?_⟩
      have hD0 : H D = Option.none := sm.free hD
      refine lc_list (K := K) (a := u) (xs := ys) (fun j H4 => ∃ zs : List V, Same H2 H4 ∧ H4 D = some (.lst zs) ∧ Mks H4 zs (((lots (ns.take i)).take j).map (· ++ [x]))) ⟨[], Same.new hD, upd_same, .nil⟩ (fun j H4 _ ⟨_, e, _⟩ => SqL.of (e _ _ eu)) ?_ ?_
      · rintro j lot H4 hj ⟨zs, sm4, e4, m4⟩
        obtain ⟨ms, hms, tl⟩ := Paired.get hm hj
        obtain ⟨tp, rfl, htp⟩ := tl
        have htp4 := sm4 _ _ htp
        have hjl := (List.getElem?_eq_some_iff.mp hj).1
        have hzl : zs.length ≤ 64 := by
          have e := Paired.length m4
          rw [List.length_map, List.length_take] at e
          omega
        have et : ((lots (ns.take i)).take (j + 1)).map (· ++ [x]) = ((lots (ns.take i)).take j).map (· ++ [x]) ++ [ms ++ [x]] := by
          rw [List.take_add_one, hms, List.map_append]
          rfl
        refine ⟨rfl, _, rfl, _, rfl, (by show 1 ≤ sizeLine; decide), fun r hr => ?_⟩
        have e5 : (upd H4 r (.tup [.int x])) r = some (.tup [.int x]) := upd_same
        have sm5 : Same H4 (upd H4 r (.tup [.int x])) := Same.new hr
        generalize upd H4 r (.tup [.int x]) = H5 at *
        have nDr : ∀ {c : Addr} {o : HO}, H2 c = some o → c ≠ D := fun h => ne_of_none h hD
        have mkl : ms.length ≤ 64 := by
          have q := (lots_sub (List.mem_of_getElem? hms)).length_le
          rw [List.length_take] at q
          omega
        refine ⟨tp, r, _, _, rfl, rfl, sqT (sm5 _ _ htp4), sqT e5, ?_, fun hnil => ?_, ?_, fun hne hne2 z hz => ?_⟩
        · rw [List.length_map]
          show ms.length + 1 ≤ sizeLine
          exact Nat.le_of_lt (small1000 (by omega))
        · refine ⟨zs, sm5 _ _ e4, small1000 (by omega), ?_⟩
          refine ⟨zs ++ [.ref r], fun b o h => by rw [upd_ne (nDr h)]; exact sm5 _ _ (sm4 _ _ h), upd_same, ?_⟩
          rw [et]
          have hms0 : ms = [] := by cases ms with
            | nil => rfl
            | cons a b => cases hnil
          subst hms0
          have tf : TFr H5 (upd H5 D (.lst (zs ++ [.ref r]))) := TFr.lst (sm5 _ _ e4)
          exact Paired.app ((m4.keep (TFr.same sm5)).keep tf) (Paired.one ⟨r, rfl, tf _ _ e5⟩)
        · intro _ hy
          cases hy
        · have e6 : (upd H5 z (.tup (ms.map V.int ++ [.int x]))) z = some (.tup (ms.map V.int ++ [.int x])) := upd_same
          have sm6 : Same H5 (upd H5 z (.tup (ms.map V.int ++ [.int x]))) := Same.new hz
          generalize upd H5 z (.tup (ms.map V.int ++ [.int x])) = H6 at *
          refine ⟨zs, sm6 _ _ (sm5 _ _ e4), small1000 (by omega), ?_⟩
          refine ⟨zs ++ [.ref z], fun b o h => by rw [upd_ne (nDr h)]; exact sm6 _ _ (sm5 _ _ (sm4 _ _ h)), upd_same, ?_⟩
          rw [et]
          have tf : TFr H6 (upd H6 D (.lst (zs ++ [.ref z]))) := TFr.lst (sm6 _ _ (sm5 _ _ e4))
          exact Paired.app ((m4.keep (TFr.same (sm5.trans sm6))).keep tf) (Paired.one ⟨z, rfl, by rw [List.map_append]; exact tf _ _ e6⟩)
      · rintro H4 ⟨zs, sm4, e4, m4⟩
        rw [List.take_of_length_le (by rw [Paired.length hm]; exact Nat.le_refl _)] at m4
        have hzl := Paired.length m4
        rw [List.length_map, ← Paired.length hm] at hzl
        refine ⟨u, D, ys, zs, rfl, rfl, sm4 _ _ eu, e4, Nat.le_of_lt (small1000 (by omega)), fun r hr => ?_⟩
        have sr : Same H4 (upd H4 r (.lst (ys ++ zs))) := Same.new hr
        refine ⟨r, ys ++ zs, some (.int x), rfl, (sm.trans sm4).trans sr, (sm.trans sm4).free hr, upd_same, ?_⟩
        have et : ns.take (i + 1) = ns.take i ++ [x] := by rw [List.take_add_one, hx]; rfl
        rw [et, lots_snoc]
        exact Paired.app (hm.keep (TFr.same (sm4.trans sr))) (m4.keep (TFr.same sr))
    · rintro σ H2 ⟨u, ys, v, rfl, sm, hu0, eu, hm⟩
      rw [List.length_map, List.take_length] at hm
      exact ⟨_, rfl, k u ys H2 eu hm sm hu0⟩
end
end Xci

namespace Xci
open PySem L2

section
variable {P : Program} {w : World} {K : PySem.W.Frag} {mg : Str → Option Value} {base : Heap}
abbrev sLawWords : Stmt := top 33
theorem scLawWords : FnScope ["deck", "most", "found", "turn", "word"] ["deck", "most"] (defScope sLawWords) := ⟨rfl, rfl, rfl, by decide +kernel, rfl, by decide +kernel, by decide +kernel⟩

theorem ok_words {f : Addr} {fd : FuncData} (F : Fun K "_law_words" "_law_words" sLawWords f fd) (T : Txt mg) (HT : Has P w K mg base "_law_take" ["deck", "many"] 1 spTake) (HW : Has P w K mg base "_law_word" ["deck"] 2 spWord) : FnOk P w K mg base CX0 3 f fd ["deck", "most"] spWords := by
  refine F.ok scLawWords (fun vs H Q E h => ?_) (fun cdv A outer s H vs Q E hr h => ?_)
  · obtain ⟨a, ld, m, rfl, _⟩ := h
    rfl
  · obtain ⟨a, ld, m, rfl, hd, hm0, hm1, k⟩ := h
    refine ⟨_, (pss_cons (ps_set (i := 2) scLawWords.nd rfl (by first | exact Or.inl rfl | exact Or.inr rfl) (pe_lst pa_nil))
      (pss_cons (ps_for PassesOwn.never rfl (pi_range1 rfl T.range (pa_cons (pe_op op_add pe_int (pe_callH HT (hr.mono (by decide)) rfl (pa_cons (pv 0) (pa_cons (pv 1) pa_nil)))) pa_nil)) (pg_name (i := 3) scLawWords.nd rfl (by first | exact Or.inl rfl | exact Or.inr rfl)) (pss_cons (ps_set (i := 4) scLawWords.nd rfl (by first | exact Or.inl rfl | exact Or.inr rfl) (pe_callH HW (hr.mono (by decide)) rfl (pa_cons (pv 0) pa_nil)))
      (pss_one (ps_if (pt_cmpR op_notIn_seq (pv 4) (pv 2) (by with_unfolding_all rfl)) (pss_one (ps_expr (pe_bm PySem.F.plainAttrs_list PySem.F.slot_list_append PySem.F.type_list_append mt_append (pv 2) (pa_cons (pv 4) pa_nil)))) pss_nil))))
      (pss_one (ps_ret (pv 2))))), ?_⟩
    refine ⟨Nat.zero_le _, fun q hq => ?_⟩
    have d1 : Deck (upd H q (.lst [])) a ld := hd.keep (Same.new hq)
    have f1 : Fr a H (upd H q (.lst [])) := Fr.new hq
    have nq := hd.ne hq
    have mq := hd.ne' hq
    have eq : (upd H q (.lst [])) q = some (.lst []) := upd_same
    generalize upd H q (.lst []) = H1 at *
    refine ⟨_, rfl, _, rfl, a, ld, m, rfl, d1, hm0, by omega, fun d H2 d0 d1' hd2 f2 _ => ?_⟩
    refine ⟨_, _, rfl, rfl, _, rfl, by omega, by omega, ?_⟩
    refine for_range (n := (1 + d).toNat) (fun i σ H3 => ∃ (zs : List Str) (v v' : Option V), σ = [some (.ref a), some (.int m), some (.ref q), v, v'] ∧ H3 q = some (.lst (zs.map V.str)) ∧ Deck H3 a ld ∧ Fr a H H3 ∧ zs.length ≤ i ∧ (1 ≤ i → zs ≠ []) ∧ zs.Nodup ∧ ∀ z ∈ zs, WordOk z)
      ⟨[], none, none, rfl, f2 _ _ eq nq, hd2, f1.trans f2, Nat.zero_le _, fun h => by omega, by simp, by simp⟩ ?_ ?_
    · rintro i σ H3 hi ⟨zs, v, v', rfl, e3, hd3, f3, hl, hne, hnd, hz⟩
      refine ⟨_, rfl, a, ld, rfl, hd3, fun z H4 wz hd4 f4 => ?_⟩
      have e4 := f4 _ _ e3 nq
      refine ⟨_, rfl, _, rfl, q, _, rfl, .inl (SqL.of e4), rfl, flat_strs zs, _, rfl, ?_⟩
      rw [inV_str]
      refine ite2 (fun hn => ?_) (fun hn => ?_)
      · have hn' : ¬ z ∈ zs := by simpa using hn
        refine ⟨_, rfl, .inl ⟨rfl, _, SqL.of e4⟩, _, rfl, q, _, _, rfl, rfl, e4, by rw [List.length_map]; exact small1000 (by omega), ?_⟩
        refine ⟨zs ++ [z], _, _, rfl, by rw [upd_same, List.map_append]; rfl, hd4.put nq mq, fun b o h n => by rw [upd_ne (ne_of_none h hq)]; exact f4 _ _ (f3 _ _ h n) n, by rw [List.length_append]; exact Nat.succ_le_succ hl, fun _ => by simp, ?_, fun y hy => ?_⟩
        · exact List.nodup_append.mpr ⟨hnd, by simp, fun x hx y hy e => hn' (by rw [← List.mem_singleton.mp hy, ← e]; exact hx)⟩
        · rcases List.mem_append.mp hy with h | h
          · exact hz y h
          · rw [List.mem_singleton.mp h]; exact wz
      · have hin : z ∈ zs := by simpa using hn
        exact ⟨zs, _, _, rfl, e4, hd4, f3.trans f4, by omega, fun _ e => (by rw [e] at hin; simp at hin), hnd, hz⟩
    · rintro σ H3 ⟨zs, v, v', rfl, e3, hd3, f3, hl, hne, hnd, hz⟩
      exact ⟨_, rfl, k q zs H3 (hne (by omega)) (by omega) hnd hz e3 hq hd3 f3⟩
end
end Xci

namespace Xci
open PySem L2

section
variable {P : Program} {w : World} {K : PySem.W.Frag} {mg : Str → Option Value} {base : Heap}
abbrev sLawFamily : Stmt := top 35
theorem scLawFamily : FnScope ["deck", "many", "every", "most", "size"] ["deck"] (defScope sLawFamily) := ⟨rfl, rfl, rfl, by decide +kernel, rfl, by decide +kernel, by decide +kernel⟩

theorem fam_at {j : Nat} (h : j < 10) : ∃ n : Int, ([V.int 2, .int 3, .int 2, .int 3, .int 1, .int 4, .int 3, .int 6, .int 0, .int 5] : List V)[j]? = some (.int n) ∧ 0 ≤ n ∧ n ≤ 6 := by
  have : ∀ j : Fin 10, ∃ n : Fin 7, ([V.int 2, .int 3, .int 2, .int 3, .int 1, .int 4, .int 3, .int 6, .int 0, .int 5] : List V)[j.val]? = some (.int (n.val : Int)) := by decide
  obtain ⟨n, e⟩ := this ⟨j, h⟩
  exact ⟨n.val, e, by omega, by omega⟩
theorem cutN (xs : List V) (k : Nat) : cutV xs none (some (k : Int)) = xs.take k := by
  unfold cutV
  have e0 : HT.sIx xs.length 0 none = 0 := rfl
  rw [e0, HT.sIx_nat, List.drop_zero, Nat.sub_zero, ← List.take_take, List.take_length]
theorem ok_family {f : Addr} {fd : FuncData} (F : Fun K "_law_family" "_law_family" sLawFamily f fd) (T : Txt mg) (HT : Has P w K mg base "_law_take" ["deck", "many"] 1 spTake) (HL : Has P w K mg base "_law_lots" ["items"] 1 (spLots K))
    (HM : Has P w K mg base "_law_mixed" ["deck", "things"] 2 (spMixed K)) : FnOk P w K mg base CX0 3 f fd ["deck"] spFamily := by
  refine F.ok scLawFamily (fun vs H Q E h => ?_) (fun cdv A outer s H vs Q E hr h => ?_)
  · obtain ⟨a, ld, rfl, _⟩ := h
    rfl
  · obtain ⟨a, ld, rfl, hd, k⟩ := h
    refine ⟨_, (C8.pss_cut (ps_set (i := 1) scLawFamily.nd rfl (by first | exact Or.inl rfl | exact Or.inr rfl) (pe_ix ix_tup (pe_tup (pa_cons pe_int (pa_cons pe_int (pa_cons pe_int (pa_cons pe_int (pa_cons pe_int (pa_cons pe_int (pa_cons pe_int (pa_cons pe_int (pa_cons pe_int (pa_cons pe_int pa_nil))))))))))) (pe_callH HT (hr.mono (by decide)) rfl (pa_cons (pv 0) (pa_cons pe_int pa_nil))) (fun _ _ => rfl)))
      (pss_cons (ps_set (i := 2) scLawFamily.nd rfl (by first | exact Or.inl rfl | exact Or.inr rfl) (pe_callH HL (hr.mono (by decide)) rfl (pa_cons (pe_tupRg rfl rfl T.tuple (prg_1 rfl T.range (pv 1))) pa_nil)))
      (pss_cons (ps_set (i := 3) scLawFamily.nd rfl (by first | exact Or.inl rfl | exact Or.inr rfl) pe_int)
      (C8.pss_cut (ps_if (pt_cmpR op_eq (pe_callH HT (hr.mono (by decide)) rfl (pa_cons (pv 0) (pa_cons pe_int pa_nil))) pe_int (nomark _)) (pss_one (ps_set (i := 3) scLawFamily.nd rfl (by first | exact Or.inl rfl | exact Or.inr rfl) pe_int)) pss_nil)
      (C8.pss_cut (ps_set (i := 4) scLawFamily.nd rfl (by first | exact Or.inl rfl | exact Or.inr rfl) (pe_op op_add pe_int (pe_callH HT (hr.mono (by decide)) rfl (pa_cons (pv 0) (pa_cons (pe_callB (call_min2 rfl) rfl T.min (by decide +kernel) (pa_cons (pv 3) (pa_cons (pe_callB call_len rfl T.len PySem.boot_len (pa_cons (pv 2) pa_nil)) pa_nil))) pa_nil)))))
      (pss_one (ps_ret (pe_tup (pa_cons (pv 1) (pa_cons (pe_callTy call_tuple_of rfl T.tuple (by decide +kernel) (pa_cons (pe_slice sl_list (pe_callH HM (hr.mono (by decide)) rfl (pa_cons (pv 0) (pa_cons (pv 2) pa_nil))) po_none (po_some (pv 4))) pa_nil)) pa_nil)))))))))), ?_⟩
    refine ⟨fun σ' H2 => ∃ many : Int, 0 ≤ many ∧ many ≤ 6 ∧ σ' = [some (.ref a), some (.int many), none, none, none] ∧ Deck H2 a ld ∧ Fr a H H2, ?_, ?_⟩
    · refine ⟨(by show 10 ≤ sizeLine; decide), fun t ht => ?_⟩
      have et : (upd H t (.tup [.int 2, .int 3, .int 2, .int 3, .int 1, .int 4, .int 3, .int 6, .int 0, .int 5])) t = some (.tup [.int 2, .int 3, .int 2, .int 3, .int 1, .int 4, .int 3, .int 6, .int 0, .int 5]) := upd_same
      have s1 : Same H (upd H t (.tup [.int 2, .int 3, .int 2, .int 3, .int 1, .int 4, .int 3, .int 6, .int 0, .int 5])) := Same.new ht
      generalize upd H t (.tup [.int 2, .int 3, .int 2, .int 3, .int 1, .int 4, .int 3, .int 6, .int 0, .int 5]) = H1 at *
      have hd1 := hd.keep s1
      refine ⟨_, rfl, a, ld, _, rfl, hd1, by decide, by decide, fun d H2 d0 d1 hd2 f2 _ => ?_⟩
      obtain ⟨j, ej⟩ : ∃ j : Nat, d = (j : Int) := ⟨d.toNat, by omega⟩
      subst ej
      obtain ⟨n, en, n0, n1⟩ := fam_at (j := j) (by omega)
      refine ⟨t, _, _, _, rfl, rfl, sqT (hd1.tfr f2 _ _ et), at_of rfl en, ?_⟩
      exact ⟨n, n0, n1, rfl, hd2, (Fr.same s1).trans f2⟩
    rintro σ' H2 ⟨many, m0, m1, rfl, hd2, f2⟩
    refine ⟨_, rfl, _, rfl, RgOk.of_le (by omega) (by omega) (by omega) (by omega), fun t ht => ?_⟩
    have et : (upd H2 t (.tup (rgV 0 many))) t = some (.tup ((rng many).map V.int)) := by rw [upd_same, rgV_rng]
    have s3 : Same H2 (upd H2 t (.tup (rgV 0 many))) := Same.new ht
    generalize upd H2 t (.tup (rgV 0 many)) = H3 at *
    have hlen : (rng many).length ≤ 6 := by rw [rng_len]; omega
    refine ⟨t, rng many, rfl, sqT et, hlen, fun q ys H4 eq mk s4 hq => ?_⟩
    have hd4 := (hd2.keep s3).keep s4
    have f4 : Fr a H H4 := f2.trans (Fr.same (s3.trans s4))
    have hq0 : H q = Option.none := hd2.free f2 (s3.free hq)
    have nq := hd.ne hq0
    have mq := hd.ne' hq0
    have hys : ys.length = 2 ^ (rng many).length := by rw [Paired.length mk, lots_len]
    have hysN : 1 ≤ ys.length ∧ ys.length ≤ 64 := by
      rw [hys]
      exact ⟨Nat.one_le_two_pow, (Nat.pow_le_pow_right (by decide) hlen : 2 ^ (rng many).length ≤ 2 ^ 6)⟩
    refine ⟨fun σ' H5 => ∃ most : Int, 1 ≤ most ∧ most ≤ 24 ∧ σ' = [some (.ref a), some (.int many), some (.ref q), some (.int most), none] ∧ Deck H5 a ld ∧ Fr a H4 H5, ?_, ?_⟩
    · refine ⟨_, rfl, a, ld, _, rfl, hd4, by decide, by decide, fun d H5 d0 d1 hd5 f5 _ => ⟨rfl, _, rfl, ?_⟩⟩
      exact ite2 (fun _ => ⟨24, by decide, by decide, rfl, hd5, f5⟩) (fun _ => ⟨8, by decide, by decide, rfl, hd5, f5⟩)
    rintro σ' H5 ⟨most, t0, t1, rfl, hd5, f5⟩
    have eq5 := f5 _ _ eq nq
    refine ⟨fun σ' H6 => ∃ n : Nat, 1 ≤ n ∧ n ≤ ys.length ∧ n ≤ 24 ∧ σ' = [some (.ref a), some (.int many), some (.ref q), some (.int most), some (.int (n : Int))] ∧ Deck H6 a ld ∧ Fr a H5 H6, ?_, ?_⟩
    · refine ⟨_, rfl, _, rfl, _, rfl, _, ys.length, rfl, .inl ⟨_, SqL.of eq5, rfl⟩, _, _, rfl, a, ld, _, rfl, hd5, by split <;> omega, by split <;> omega, fun d H6 d0 d1 hd6 f6 _ => ?_⟩
      refine ⟨_, _, rfl, rfl, ?_⟩
      have dlt : d < (ys.length : Int) ∧ d < 24 := by
        split at d1 <;> omega
      obtain ⟨n, en⟩ : ∃ n : Nat, 1 + d = (n : Int) := ⟨(1 + d).toNat, by omega⟩
      exact ⟨n, by omega, by omega, by omega, congrArg (fun z => [some (V.ref a), some (V.int many), some (V.ref q), some (V.int most), some (V.int z)]) en, hd6, f6⟩
    rintro σ' H6 ⟨n, n1, n2, n3, rfl, hd6, f6⟩
    have eq6 := f6 _ _ eq5 nq
    refine ⟨_, rfl, _, rfl, _, rfl, a, ld, q, ys, rfl, hd6, Sq.lst eq6, by omega, fun r zs H7 pm er hr0 hd7 f7 => ?_⟩
    refine ⟨_, rfl, _, rfl, r, zs, rfl, SqL.of er, fun u hu => ?_⟩
    rw [cutN]
    have e8 : (upd H7 u (.lst (zs.take n))) u = some (.lst (zs.take n)) := upd_same
    have s8 : Same H7 (upd H7 u (.lst (zs.take n))) := Same.new hu
    generalize upd H7 u (.lst (zs.take n)) = H8 at *
    refine ⟨u, _, rfl, .inl ⟨SqL.of e8, fun p hp => ?_⟩⟩
    have e9 : (upd H8 p (.tup (zs.take n))) p = some (.tup (zs.take n)) := upd_same
    have s9 : Same H8 (upd H8 p (.tup (zs.take n))) := Same.new hp
    generalize upd H8 p (.tup (zs.take n)) = H9 at *
    refine ⟨(by show 2 ≤ sizeLine; decide), fun v hv => ?_⟩
    have s10 : Same H9 (upd H9 v (.tup [.int many, .ref p])) := Same.new hv
    have f47 : Fr a H4 H7 := (f5.trans f6).trans f7
    have t47 : TFr H4 H7 := hd4.tfr f47
    have mk7 : Mks H7 ys (lots (rng many)) := mk.keep t47
    obtain ⟨cs, mkc, pc⟩ := Paired.perm pm mk7
    have mk10 : Mks (upd H9 v (.tup [.int many, .ref p])) (zs.take n) (cs.take n) := Mks.keep (TFr.same ((s8.trans s9).trans s10)) (Paired.take n mkc)
    have hzl := pm.length_eq
    have hcl : cs.length = ys.length := by rw [pc.length_eq, ← Paired.length mk]
    refine k (.ref v) p many (zs.take n) (cs.take n) _ ⟨v, rfl, upd_same⟩ (s10 _ _ e9) mk10 ⟨m0, m1, ?_, ?_, ?_, fun c hc => ?_⟩ (((hd7.keep s8).keep s9).keep s10) ((f4.trans f47).trans (Fr.same ((s8.trans s9).trans s10)))
    · intro e
      have q := congrArg List.length e
      rw [List.length_take, List.length_nil] at q
      omega
    · rw [List.length_take]; omega
    · exact List.Sublist.nodup (List.take_sublist _ _) (pc.nodup_iff.mpr (lots_nd (rng_ok many).nd))
    · exact (rng_ok many).sub (lots_sub (pc.subset ((List.take_subset _ _) hc)))
end
end Xci

namespace Xci
open PySem L2

section
variable {P : Program} {w : World} {K : PySem.W.Frag} {mg : Str → Option Value} {base : Heap}
abbrev sLawIn : Stmt := top 36
theorem scLawIn : FnScope ["one", "other", "mark"] ["one", "other"] (defScope sLawIn) := ⟨rfl, rfl, rfl, by decide +kernel, rfl, by decide +kernel, by decide +kernel⟩

theorem out_nil (ms ns : List Int) : decide (V.int (((ms.filter fun m => !decide (m ∈ ns)).length : Nat) : Int) = V.int 0) = inside ms ns := by
  unfold inside
  induction ms with
  | nil => rfl
  | cons m r ih =>
    rw [List.all_cons, List.filter_cons]
    by_cases h : m ∈ ns
    · simp only [h, decide_true, Bool.not_true, Bool.true_and]
      exact ih
    · simp [h]
      omega
theorem ok_in {f : Addr} {fd : FuncData} (F : Fun K "_law_in" "_law_in" sLawIn f fd) (T : Txt mg) : FnOk P w K mg base CX0 1 f fd ["one", "other"] spIn := by
  refine F.ok scLawIn (fun vs H Q E h => ?_) (fun cdv A outer s H vs Q E hr h => ?_)
  · obtain ⟨u, v, ms, ns, rfl, _⟩ := h
    rfl
  · obtain ⟨u, v, ms, ns, rfl, ⟨p, rfl, hp⟩, ⟨q, rfl, hq⟩, hl, k⟩ := h
    refine ⟨_, (pss_one (ps_ret (pe_cmpR op_eq (pe_callB call_len rfl T.len PySem.boot_len (pa_cons (pe_lc (own := [("mark", 2)]) rfl scLawIn.nd (pi_tup (pv 0)) (blkOk_by (N := ["one", "other", "mark"]) (sc := defScope sLawIn) (by decide +kernel)) (fun _ _ _ _ _ => (pg_name (i := 2) scLawIn.nd rfl (by first | exact Or.inl rfl | exact Or.inr rfl))) (fun _ _ _ _ _ => pts_one (pt_cmpR (show OpR _ _ (rIn K true) from op_notIn_seq) (pv 2) (pv 1) (by with_unfolding_all rfl))) (fun _ _ _ _ _ => (pv 2))) pa_nil)) pe_int (nomark _)))), ?_⟩
    refine ⟨_, rfl, p, rfl, ⟨_, sqT hp⟩, fun D hD => ?_⟩
    refine lc_tup (K := K) (a := p) (xs := ms.map V.int) (fun i H4 => Same H H4 ∧ H4 D = some (.lst (((ms.take i).filter fun m => !decide (m ∈ ns)).map V.int))) ⟨Same.new hD, upd_same⟩ (fun i H4 _ ⟨e, _⟩ => sqT (e _ _ hp)) ?_ ?_
    · rintro i y H4 hi ⟨sm, e4⟩
      obtain ⟨m, hm, rfl⟩ := int_of hi
      refine ⟨rfl, _, rfl, _, rfl, q, _, rfl, .inr (sqT (sm _ _ hq)), rfl, flat_ints ns, _, rfl, ?_⟩
      rw [inV_int]
      have et : ms.take (i + 1) = ms.take i ++ [m] := by rw [List.take_add_one, hm]; rfl
      refine ite2 (fun hn => ?_) (fun hn => ?_)
      · have hn' : (!decide (m ∈ ns)) = true := hn
        refine ⟨_, rfl, _, e4, ?_, fun b o h => by rw [upd_ne (ne_of_none h hD)]; exact sm b o h, ?_⟩
        · rw [List.length_map]
          exact small1000 (Nat.le_trans (List.length_filter_le _ _) (by rw [List.length_take]; omega))
        · rw [upd_same, et, List.filter_append, List.map_append]
          simp only [List.filter_cons, hn', if_true, List.filter_nil, List.map_cons, List.map_nil]
      · have hn' : (!decide (m ∈ ns)) = false := by
          cases hh : (!decide (m ∈ ns)) with
          | false => rfl
          | true => exact absurd hh hn
        refine ⟨sm, ?_⟩
        rw [e4, et, List.filter_append]
        simp [List.filter_cons, hn']
    · rintro H4 ⟨sm, e4⟩
      rw [List.length_map, List.take_length] at e4
      refine ⟨_, _, rfl, .inl ⟨_, SqL.of e4, rfl⟩, rfl, ?_⟩
      rw [List.length_map, out_nil]
      exact k H4 sm
end
end Xci

namespace Xci
open PySem L2

section
variable {P : Program} {w : World} {K : PySem.W.Frag} {mg : Str → Option Value} {base : Heap}
abbrev sLawMarks : Stmt := top 38
theorem scLawMarks : FnScope ["deck", "cells", "mark", "cell"] ["deck", "cells"] (defScope sLawMarks) := ⟨rfl, rfl, rfl, by decide +kernel, rfl, by decide +kernel, by decide +kernel⟩

theorem ok_marks {f : Addr} {fd : FuncData} (F : Fun K "_law_marks" "_law_marks" sLawMarks f fd) (T : Txt mg) (HT : Has P w K mg base "_law_take" ["deck", "many"] 1 spTake) : FnOk P w K mg base CX0 2 f fd ["deck", "cells"] (spMarks K) := by
  refine F.ok scLawMarks (fun vs H Q E h => ?_) (fun cdv A outer s H vs Q E hr h => ?_)
  · obtain ⟨a, ld, p, ys, cells, rfl, _⟩ := h
    rfl
  · obtain ⟨a, ld, p, ys, cells, rfl, hd, npa, hS, mk, hne, hlen, hok, k⟩ := h
    refine ⟨_, (pss_cons (ps_if (pt_cmpR op_eq (pe_callH HT (hr.mono (by decide)) rfl (pa_cons (pv 0) (pa_cons pe_int pa_nil))) pe_int (nomark _)) (pss_one (ps_ret (pe_callTy call_tuple_of rfl T.tuple (by decide +kernel) (pa_cons (pe_lc (own := [("mark", 2)]) rfl scLawMarks.nd (pi_range1 rfl T.range (pa_cons pe_int pa_nil)) (blkOk_by (N := ["deck", "cells", "mark", "cell"]) (sc := defScope sLawMarks) (by decide +kernel)) (fun _ _ _ _ _ => (pg_name (i := 2) scLawMarks.nd rfl (by first | exact Or.inl rfl | exact Or.inr rfl))) (fun _ _ _ _ _ => pts_one (pt_cmpR op_eq (pe_callH HT (hr.mono (by decide)) rfl (pa_cons (pv 0) (pa_cons pe_int pa_nil))) pe_int (nomark _))) (fun _ _ _ _ _ => (pv 2))) pa_nil)))) pss_nil)
      (pss_cons (ps_set (i := 3) scLawMarks.nd rfl (by first | exact Or.inl rfl | exact Or.inr rfl) (pe_ix (IxR.or ix_list ix_tup) (pv 1) (pe_callH HT (hr.mono (by decide)) rfl (pa_cons (pv 0) (pa_cons (pe_callB call_len rfl T.len PySem.boot_len (pa_cons (pv 1) pa_nil)) pa_nil))) (fun _ _ => rfl)))
      (pss_one (ps_ret (pe_callTy call_tuple_of rfl T.tuple (by decide +kernel) (pa_cons (pe_lc (own := [("mark", 2)]) rfl scLawMarks.nd (pi_tup (pv 3)) (blkOk_by (N := ["deck", "cells", "mark", "cell"]) (sc := defScope sLawMarks) (by decide +kernel)) (fun _ _ _ _ _ => (pg_name (i := 2) scLawMarks.nd rfl (by first | exact Or.inl rfl | exact Or.inr rfl))) (fun _ _ _ _ _ => pts_one (pt_cmpR op_gt (pe_callH HT (hr.mono (by decide)) rfl (pa_cons (pv 0) (pa_cons pe_int pa_nil))) pe_int (nomark _))) (fun _ _ _ _ _ => (pv 2))) pa_nil)))))), ?_⟩
    refine ⟨_, rfl, a, ld, _, rfl, hd, by decide, by decide, fun d H1 d0 d1 hd1 f1 _ => ⟨rfl, _, rfl, ?_⟩⟩
    have fin : ∀ (D : Addr) (ms : List Int) (H4 : Hp), H4 D = some (.lst (ms.map V.int)) → MarksOk 6 ms → Deck H4 a ld → Fr a H H4 → ∀ l : Addr, H4 l = Option.none → Q (.ref l) (upd H4 l (.tup (ms.map V.int))) := by
      intro D ms H4 e4 ok hd4 f4 l hl
      exact k _ ms _ ⟨l, rfl, upd_same⟩ ok (hd4.keep (Same.new hl)) (f4.trans (Fr.new hl))
    refine ite2 (fun _ => ?_) (fun _ => ?_)
    · refine ⟨_, rfl, by decide, by decide, fun D hD => ?_⟩
      have hD0 := hd1.free f1 hD
      have nD := hd.ne hD0
      have mD := hd.ne' hD0
      refine lc_range (n := 6) (fun i H4 => ∃ ms : List Int, Deck H4 a ld ∧ Fr a H H4 ∧ H4 D = some (.lst (ms.map V.int)) ∧ ms.length ≤ i ∧ MarksOk (i : Int) ms) ⟨[], hd1.keep (Same.new hD), f1.trans (Fr.new hD), upd_same, Nat.le_refl _, .nil, by simp, by simp⟩ ?_ ?_
      · rintro i H4 hi ⟨ms, hd4, f4, e4, hl, ok⟩
        refine ⟨rfl, _, rfl, a, ld, _, rfl, hd4, by decide, by decide, fun d H5 d0 d1 hd5 f5 _ => ⟨rfl, _, rfl, ?_⟩⟩
        refine ite2 (fun _ => ?_) (fun _ => ?_)
        · refine ⟨_, rfl, _, f5 _ _ e4 nD, by rw [List.length_map]; exact small1000 (by omega), ms ++ [0 + (i : Int)], hd5.put nD mD, fun b o h n => by rw [upd_ne (ne_of_none h hD0)]; exact f5 _ _ (f4 _ _ h n) n, by rw [upd_same, List.map_append]; rfl, by rw [List.length_append]; exact Nat.succ_le_succ hl, ?_⟩
          rw [Int.zero_add]
          refine ⟨List.pairwise_append.mpr ⟨ok.up, by simp, fun x hx y hy => by rw [List.mem_singleton.mp hy]; exact ok.hi x hx⟩, fun m hm => ?_, fun m hm => ?_⟩
          · rcases List.mem_append.mp hm with h | h
            · exact ok.lo m h
            · rw [List.mem_singleton.mp h]; omega
          · rcases List.mem_append.mp hm with h | h
            · have := ok.hi m h; omega
            · rw [List.mem_singleton.mp h]; omega
        · exact ⟨ms, hd5, f4.trans f5, f5 _ _ e4 nD, by omega, ok.le (by omega)⟩
      · rintro H4 ⟨ms, hd4, f4, e4, hl, ok⟩
        exact ⟨_, _, rfl, .inl ⟨SqL.of e4, fin D ms H4 e4 (by simpa using ok) hd4 f4⟩⟩
    · -- cell = cells[take(deck, len(cells))]
      have hcl : 0 < cells.length := List.length_pos_iff.mpr hne
      have hyl := Paired.length mk
      have hS1 : Sq0 H1 p ys := hS.fr f1 npa
      refine ⟨_, rfl, _, rfl, _, rfl, _, ys.length, rfl, hS1.sq.elim (fun h => .inl ⟨_, h, rfl⟩) (fun h => .inr ⟨_, h, rfl⟩), a, ld, _, rfl, hd1, by omega, by omega, fun d H2 d0 d1 hd2 f2 _ => ?_⟩
      obtain ⟨j, ej⟩ : ∃ j : Nat, d = (j : Int) := ⟨d.toNat, by omega⟩
      subst ej
      have hj : j < ys.length := by omega
      have hx : ys[j]? = some ys[j] := List.getElem?_eq_getElem hj
      have hS2 : Sq K H2 p ys := (hS1.fr f2 npa).sq
      have f02 := f1.trans f2
      obtain ⟨c, hc, tc⟩ := Paired.get (mk.keep (hd.tfr f02)) hx
      have okc := hok c (List.mem_of_getElem? hc)
      obtain ⟨tp, etp, htp⟩ := tc
      refine hS2.elim (fun h => .inl ⟨p, ys, _, _, rfl, rfl, h, at_of rfl hx, ?_⟩) (fun h => .inr ⟨p, ys, _, _, rfl, rfl, h, at_of rfl hx, ?_⟩)
      all_goals
        rw [etp]
        refine ⟨_, rfl, tp, rfl, ⟨_, sqT htp⟩, fun D hD => ?_⟩
        have hD0 := hd2.free f02 hD
        have nD := hd.ne hD0
        have mD := hd.ne' hD0
        have ntp : tp ≠ a := by
          obtain ⟨zz, hz⟩ := hd2.is
          exact ne_of htp hz (by intro q; cases q)
        refine lc_tup (K := K) (a := tp) (xs := c.map V.int) (fun i H4 => ∃ ms : List Int, Deck H4 a ld ∧ Fr a H H4 ∧ H4 tp = some (.tup (c.map V.int)) ∧ H4 D = some (.lst (ms.map V.int)) ∧ ms.Sublist (c.take i)) ⟨[], hd2.keep (Same.new hD), f02.trans (Fr.new hD), (Same.new hD) _ _ htp, upd_same, List.nil_sublist _⟩ (fun i H4 _ ⟨_, _, _, e, _⟩ => sqT e) ?_ ?_
        · rintro i y H4 hi ⟨ms, hd4, f4, t4, e4, sb⟩
          obtain ⟨m, hm, rfl⟩ := int_of hi
          have et : c.take (i + 1) = c.take i ++ [m] := by rw [List.take_add_one, hm]; rfl
          refine ⟨rfl, _, rfl, a, ld, _, rfl, hd4, by decide, by decide, fun d H5 d0 d1 hd5 f5 _ => ⟨_, _, rfl, rfl, _, rfl, ?_⟩⟩
          have t5 := hd4.tfr f5 _ _ t4
          refine ite2 (fun _ => ?_) (fun _ => ?_)
          · have hl := (sb.trans (List.take_sublist _ _)).length_le
            have hcl := okc.len
            refine ⟨_, rfl, _, f5 _ _ e4 nD, by rw [List.length_map]; exact small1000 (by omega), ms ++ [m], hd5.put nD mD, fun b o h n => by rw [upd_ne (ne_of_none h hD0)]; exact f5 _ _ (f4 _ _ h n) n, by rw [upd_ne (ne_of t5 (f5 _ _ e4 nD) (by intro q; cases q))]; exact t5, by rw [upd_same, List.map_append]; rfl, by rw [et]; exact sb.append (List.Sublist.refl _)⟩
          · exact ⟨ms, hd5, f4.trans f5, t5, f5 _ _ e4 nD, by rw [et]; exact sb.trans (List.sublist_append_left _ _)⟩
        · rintro H4 ⟨ms, hd4, f4, t4, e4, sb⟩
          exact ⟨_, _, rfl, .inl ⟨SqL.of e4, fin D ms H4 e4 (okc.sub (sb.trans (List.take_sublist _ _))) hd4 f4⟩⟩
end
end Xci

namespace Xci
open PySem L2

section
variable {P : Program} {w : World} {K : PySem.W.Frag} {mg : Str → Option Value} {base : Heap}
abbrev sLawEntries : Stmt := top 39
theorem scLawEntries : FnScope ["deck", "cells", "words", "most", "found", "turn"] ["deck", "cells", "words", "most"] (defScope sLawEntries) := ⟨rfl, rfl, rfl, by decide +kernel, rfl, by decide +kernel, by decide +kernel⟩

theorem ok_entries {f : Addr} {fd : FuncData} (F : Fun K "_law_entries" "_law_entries" sLawEntries f fd) (T : Txt mg) (HT : Has P w K mg base "_law_take" ["deck", "many"] 1 spTake) (HM : Has P w K mg base "_law_marks" ["deck", "cells"] 2 (spMarks K)) :
    FnOk P w K mg base CX0 3 f fd ["deck", "cells", "words", "most"] (spEntries K) := by
  refine F.ok scLawEntries (fun vs H Q E h => ?_) (fun cdv A outer s H vs Q E hr h => ?_)
  · obtain ⟨a, ld, p, qw, ys, cells, zs, m, rfl, _⟩ := h
    rfl
  · obtain ⟨a, ld, p, qw, ys, cells, zs, m, rfl, hd, npa, hS, mk, hne, hcl, hok, ezs, nqa, zne, zl, zok, m0, m1, k⟩ := h
    refine ⟨_, (pss_cons (ps_set (i := 4) scLawEntries.nd rfl (by first | exact Or.inl rfl | exact Or.inr rfl) (pe_lst pa_nil))
      (pss_cons (ps_for PassesOwn.never rfl (pi_range1 rfl T.range (pa_cons (pe_callH HT (hr.mono (by decide)) rfl (pa_cons (pv 0) (pa_cons (pe_op op_add (pv 3) pe_int) pa_nil))) pa_nil)) (pg_name (i := 5) scLawEntries.nd rfl (by first | exact Or.inl rfl | exact Or.inr rfl)) (pss_one (ps_if (PW.pt (pw_and (pt_cmpR op_gt (pe_callB call_len rfl T.len PySem.boot_len (pa_cons (pv 4) pa_nil)) pe_int (nomark _)) (pw_and1 (pt_cmpR op_eq (pe_callH HT (hr.mono (by decide)) rfl (pa_cons (pv 0) (pa_cons pe_int pa_nil))) pe_int (nomark _))))) (pss_one (ps_expr (pe_bm PySem.F.plainAttrs_list PySem.F.slot_list_append PySem.F.type_list_append mt_append (pv 4) (pa_cons (pe_tup (pa_cons (pe_ix ix_tup (pe_ix ix_list (pv 4) (pe_callH HT (hr.mono (by decide)) rfl (pa_cons (pv 0) (pa_cons (pe_callB call_len rfl T.len PySem.boot_len (pa_cons (pv 4) pa_nil)) pa_nil))) (fun _ _ => rfl)) pe_int (fun _ _ => rfl)) (pa_cons (pe_ix ix_list (pv 2) (pe_callH HT (hr.mono (by decide)) rfl (pa_cons (pv 0) (pa_cons (pe_callB call_len rfl T.len PySem.boot_len (pa_cons (pv 2) pa_nil)) pa_nil))) (fun _ _ => rfl)) pa_nil))) pa_nil)))) (pss_one (ps_expr (pe_bm PySem.F.plainAttrs_list PySem.F.slot_list_append PySem.F.type_list_append mt_append (pv 4) (pa_cons (pe_tup (pa_cons (pe_callH HM (hr.mono (by decide)) rfl (pa_cons (pv 0) (pa_cons (pv 1) pa_nil))) (pa_cons (pe_ix ix_list (pv 2) (pe_callH HT (hr.mono (by decide)) rfl (pa_cons (pv 0) (pa_cons (pe_callB call_len rfl T.len PySem.boot_len (pa_cons (pv 2) pa_nil)) pa_nil))) (fun _ _ => rfl)) pa_nil))) pa_nil)))))))
      (pss_one (ps_ret (pe_callTy call_tuple_of rfl T.tuple (by decide +kernel) (pa_cons (pv 4) pa_nil)))))), ?_⟩
    refine ⟨Nat.zero_le _, fun q hq => ?_⟩
    have hd1 : Deck (upd H q (.lst [])) a ld := hd.keep (Same.new hq)
    have f1 : Fr a H (upd H q (.lst [])) := Fr.new hq
    have nq := hd.ne hq
    have mq := hd.ne' hq
    have eq : (upd H q (.lst [])) q = some (.lst []) := upd_same
    generalize upd H q (.lst []) = H1 at *
    have npq : p ≠ q := hS.ne hq
    have nqq : qw ≠ q := ne_of_none ezs hq
    have hS1 : Sq0 H1 p ys := hS.fr f1 npa
    refine ⟨_, rfl, _, rfl, _, _, rfl, rfl, a, ld, _, rfl, hd1, by omega, by omega, fun dn H2 n0 n1 hd2 f2 _ => ⟨_, rfl, by omega, by omega, ?_⟩⟩
    have t0 : TFr H H2 := hd.tfr (f1.trans f2)
    refine for_range (n := dn.toNat) (fun i σ H3 => ∃ (vs : List V) (es : List Ent) (v : Option V), σ = [some (.ref a), some (.ref p), some (.ref qw), some (.int m), some (.ref q), v] ∧ H3 q = some (.lst vs) ∧ Ents H3 vs es ∧ es.length ≤ i ∧ (∀ e ∈ es, EntOk e) ∧ Deck H3 a ld ∧ Fr a H H3)
      ⟨[], [], none, rfl, f2 _ _ eq nq, .nil, Nat.zero_le _, by simp, hd2, f1.trans f2⟩ ?_ ?_
    · rintro i σ H3 hi ⟨vs, es, v, rfl, e3, ents, hl, eok, hd3, f3⟩
      have hvl := Paired.length ents
      have ez3 := f3 _ _ ezs nqa
      have zlen : 0 < zs.length := List.length_pos_iff.mpr zne
      have fin : ∀ (u : V) (ms : List Int) (z : Str) (H5 : Hp), Xci.Mk H5 u ms → EntOk (ms, z) → H5 q = some (.lst vs) → Deck H5 a ld → Fr a H3 H5 → ∀ r : Addr, H5 r = Option.none →
          (∃ (vs' : List V) (es' : List Ent) (v : Option V), ([some (.ref a), some (.ref p), some (.ref qw), some (.int m), some (.ref q), some (.int (0 + (i : Int)))] : L2.St) = [some (.ref a), some (.ref p), some (.ref qw), some (.int m), some (.ref q), v] ∧
            (upd (upd H5 r (.tup [u, .str z])) q (.lst (vs ++ [.ref r]))) q = some (.lst vs') ∧ Ents (upd (upd H5 r (.tup [u, .str z])) q (.lst (vs ++ [.ref r]))) vs' es' ∧ es'.length ≤ i + 1 ∧ (∀ e ∈ es', EntOk e) ∧ Deck (upd (upd H5 r (.tup [u, .str z])) q (.lst (vs ++ [.ref r]))) a ld ∧ Fr a H (upd (upd H5 r (.tup [u, .str z])) q (.lst (vs ++ [.ref r])))) := by
        intro u ms z H5 hu ok e5 hd5 f5 r hr
        have s6 : Same H5 (upd H5 r (.tup [u, .str z])) := Same.new hr
        have tf : TFr (upd H5 r (.tup [u, .str z])) (upd (upd H5 r (.tup [u, .str z])) q (.lst (vs ++ [.ref r]))) := TFr.lst (s6 _ _ e5)
        refine ⟨vs ++ [.ref r], es ++ [(ms, z)], _, rfl, upd_same, ?_, by rw [List.length_append]; exact Nat.succ_le_succ hl, fun e he => ?_, (hd5.keep s6).put nq mq, fun b o h n => ?_⟩
        · exact Paired.app (Ents.keep (((hd3.tfr f5).trans (TFr.same s6)).trans tf) ents) (Paired.one ⟨u, ⟨r, rfl, tf _ _ upd_same⟩, (Tup.keep (TFr.same s6) hu).keep tf⟩)
        · rcases List.mem_append.mp he with h | h
          · exact eok e h
          · rw [List.mem_singleton.mp h]; exact ok
        · rw [upd_ne (ne_of_none h hq)]; exact s6 _ _ (f5 _ _ (f3 _ _ h n) n)
      have word : ∀ d : Int, 0 ≤ d → d < (zs.length : Int) → ∃ (j : Nat) (z : Str), d = (j : Int) ∧ (zs.map V.str)[j]? = some (.str z) ∧ WordOk z := by
        intro d h0 h1
        have hj : d.toNat < zs.length := by omega
        exact ⟨d.toNat, zs[d.toNat], by omega, by rw [List.getElem?_map, List.getElem?_eq_getElem hj]; rfl, zok _ (List.getElem_mem hj)⟩
      refine ⟨_, rfl, _, vs.length, rfl, .inl ⟨_, SqL.of e3, rfl⟩, _, _, rfl, rfl, _, rfl, ?_⟩
      refine ite2 (fun hc => ?_) (fun _ => ?_)
      · have hvp : 0 < vs.length := by simpa using hc
        refine ⟨_, rfl, a, ld, _, rfl, hd3, by decide, by decide, fun d H4 d0 d1 hd4 f4 _ => ⟨rfl, _, rfl, ?_⟩⟩
        have e4 := f4 _ _ e3 nq
        refine ite2 (fun _ => ?_) (fun _ => ?_)
        · refine ⟨_, rfl, .inl ⟨rfl, _, SqL.of e4⟩, _, rfl, _, rfl, _, rfl, _, vs.length, rfl, .inl ⟨_, SqL.of e4, rfl⟩, a, ld, _, rfl, hd4, by omega, by omega, fun d5 H5 d50 d51 hd5 f5 _ => ?_⟩
          have e5 := f5 _ _ e4 nq
          have f35 := f4.trans f5
          obtain ⟨j, ej⟩ : ∃ j : Nat, d5 = (j : Int) := ⟨d5.toNat, by omega⟩
          subst ej
          have hj : j < vs.length := by omega
          have hx : vs[j]? = some vs[j] := List.getElem?_eq_getElem hj
          obtain ⟨e, he, u, ⟨r0, er0, hr0⟩, mu⟩ := Paired.get (Ents.keep (hd3.tfr f35) ents) hx
          have ek := eok e (List.mem_of_getElem? he)
          refine ⟨q, _, _, _, rfl, rfl, SqL.of e5, at_of rfl hx, ?_⟩
          rw [er0]
          refine ⟨r0, _, _, _, rfl, rfl, sqT hr0, at_of (j := 0) rfl rfl, ?_⟩
          have ez5 : H5 qw = some (.lst (zs.map V.str)) := f35 _ _ ez3 nqa
          refine ⟨_, rfl, _, rfl, _, rfl, _, zs.length, rfl, .inl ⟨_, SqL.of ez5, by rw [List.length_map]⟩, a, ld, _, rfl, hd5, by omega, by omega, fun d6 H6 d60 d61 hd6 f6 _ => ?_⟩
          obtain ⟨j6, z, ej6, hz6, wz⟩ := word d6 d60 d61
          have ez6 := f6 _ _ ez5 nqa
          refine ⟨qw, _, _, _, rfl, rfl, SqL.of ez6, at_of ej6 hz6, (by show 2 ≤ sizeLine; decide), fun r hr => ?_⟩
          have e6 := f6 _ _ e5 nq
          refine ⟨q, vs, _, rfl, rfl, (Same.new hr) _ _ e6, small1000 (by omega), ?_⟩
          exact fin u e.1 z H6 (mu.keep (hd5.tfr f6)) ⟨ek.ms, wz⟩ e6 hd6 (f35.trans f6) r hr
        · refine ⟨_, rfl, .inl ⟨rfl, _, SqL.of e4⟩, _, rfl, _, rfl, a, ld, p, ys, cells, rfl, hd4, npa, hS.fr (f3.trans f4) npa, mk.keep (hd.tfr (f3.trans f4)), hne, hcl, hok, fun u ms H5 mu ok hd5 f5 => ?_⟩
          have e5 := f5 _ _ e4 nq
          have f35 := f4.trans f5
          have ez5 : H5 qw = some (.lst (zs.map V.str)) := f35 _ _ ez3 nqa
          refine ⟨_, rfl, _, rfl, _, rfl, _, zs.length, rfl, .inl ⟨_, SqL.of ez5, by rw [List.length_map]⟩, a, ld, _, rfl, hd5, by omega, by omega, fun d6 H6 d60 d61 hd6 f6 _ => ?_⟩
          obtain ⟨j6, z, ej6, hz6, wz⟩ := word d6 d60 d61
          have ez6 := f6 _ _ ez5 nqa
          refine ⟨qw, _, _, _, rfl, rfl, SqL.of ez6, at_of ej6 hz6, (by show 2 ≤ sizeLine; decide), fun r hr => ?_⟩
          have e6 := f6 _ _ e5 nq
          refine ⟨q, vs, _, rfl, rfl, (Same.new hr) _ _ e6, small1000 (by omega), ?_⟩
          exact fin u ms z H6 (Tup.keep (hd5.tfr f6) mu) ⟨ok, wz⟩ e6 hd6 (f35.trans f6) r hr
      · refine ⟨_, rfl, .inl ⟨rfl, _, SqL.of e3⟩, _, rfl, _, rfl, a, ld, p, ys, cells, rfl, hd3, npa, hS.fr f3 npa, mk.keep (hd.tfr f3), hne, hcl, hok, fun u ms H5 mu ok hd5 f5 => ?_⟩
        have e5 := f5 _ _ e3 nq
        have ez5 : H5 qw = some (.lst (zs.map V.str)) := f5 _ _ ez3 nqa
        refine ⟨_, rfl, _, rfl, _, rfl, _, zs.length, rfl, .inl ⟨_, SqL.of ez5, by rw [List.length_map]⟩, a, ld, _, rfl, hd5, by omega, by omega, fun d6 H6 d60 d61 hd6 f6 _ => ?_⟩
        obtain ⟨j6, z, ej6, hz6, wz⟩ := word d6 d60 d61
        have ez6 := f6 _ _ ez5 nqa
        refine ⟨qw, _, _, _, rfl, rfl, SqL.of ez6, at_of ej6 hz6, (by show 2 ≤ sizeLine; decide), fun r hr => ?_⟩
        have e6 := f6 _ _ e5 nq
        refine ⟨q, vs, _, rfl, rfl, (Same.new hr) _ _ e6, small1000 (by omega), ?_⟩
        exact fin u ms z H6 (Tup.keep (hd5.tfr f6) mu) ⟨ok, wz⟩ e6 hd6 (f5.trans f6) r hr
    · rintro σ H3 ⟨vs, es, v, rfl, e3, ents, hl, eok, hd3, f3⟩
      refine ⟨_, rfl, q, vs, rfl, .inl ⟨SqL.of e3, fun r hr => ?_⟩⟩
      exact k r vs es _ upd_same (Ents.keep (TFr.new hr) ents) (by omega) eok (hd3.keep (Same.new hr)) (f3.trans (Fr.new hr))
end
end Xci

namespace Xci
open PySem L2

section
variable {P : Program} {w : World} {K : PySem.W.Frag} {mg : Str → Option Value} {base : Heap}
abbrev sIsInteger : Stmt := top 6
theorem scIsInteger : FnScope ["thing"] ["thing"] (defScope sIsInteger) := ⟨rfl, rfl, rfl, by decide +kernel, rfl, by decide +kernel, by decide +kernel⟩

theorem ok_integer {f : Addr} {fd : FuncData} (F : Fun K "is_integer" "is_integer" sIsInteger f fd) (T : Txt mg) : FnOk P w K mg base CX0 1 f fd ["thing"] spIsInteger := by
  refine F.ok scIsInteger (fun vs H Q E h => ?_) (fun cdv A outer s H vs Q E hr h => ?_)
  · obtain ⟨i, rfl, _⟩ := h
    rfl
  · obtain ⟨i, rfl, k⟩ := h
    refine ⟨_, (pss_one (ps_ret (pe_and (pe_callB call_isi rfl T.isinstance (by decide +kernel) (pa_cons (pv 0) (pa_cons (pe_bltn rfl T.int (by decide +kernel) (v := V.ty "int") rfl) pa_nil))) (pe_one (pe_not (pe_callB call_isi rfl T.isinstance (by decide +kernel) (pa_cons (pv 0) (pa_cons (pe_bltn rfl T.bool (by decide +kernel) (v := V.ty "bool") rfl) pa_nil)))))))), ?_⟩
    refine ⟨_, rfl, _, _, _, _, true, rfl, .ty _, .base (.int _), kit_ty (by decide +kernel), _, rfl, ?_⟩
    exact ⟨_, rfl, _, _, _, _, false, rfl, .ty _, .base (.int _), kit_ty (by decide +kernel), _, rfl, k⟩
abbrev sIsBetween : Stmt := top 7
theorem scIsBetween : FnScope ["low", "high", "thing"] ["low", "high", "thing"] (defScope sIsBetween) := ⟨rfl, rfl, rfl, by decide +kernel, rfl, by decide +kernel, by decide +kernel⟩

theorem ok_between {f : Addr} {fd : FuncData} (F : Fun K "is_between" "is_between" sIsBetween f fd) (HI : Has P w K mg base "is_integer" ["thing"] 1 spIsInteger) : FnOk P w K mg base CX0 2 f fd ["low", "high", "thing"] spBetween := by
  refine F.ok scIsBetween (fun vs H Q E h => ?_) (fun cdv A outer s H vs Q E hr h => ?_)
  · obtain ⟨lo, hi, x, rfl, _⟩ := h
    rfl
  · obtain ⟨lo, hi, x, rfl, k⟩ := h
    refine ⟨_, (pss_one (ps_ret (pe_and (pe_callH HI (hr.mono (by decide)) rfl (pa_cons (pv 2) pa_nil)) (pe_one (pe_chain op_le op_le (pv 0) (pv 2) (pv 1)))))), ?_⟩
    refine ⟨_, rfl, x, rfl, _, rfl, ?_⟩
    refine ⟨_, rfl, _, rfl, _, _, rfl, rfl, _, rfl, ?_⟩
    refine ite2 (fun h1 => ?_) (fun h1 => ?_)
    · have h1' : lo ≤ x := of_decide_eq_true h1
      refine ⟨_, rfl, _, _, rfl, rfl, ?_⟩
      have e : decide (lo ≤ x ∧ x ≤ hi) = decide (x ≤ hi) := by simp [h1']
      rw [e] at k
      exact k
    · have h1' : ¬ lo ≤ x := fun q => h1 (decide_eq_true q)
      have e : decide (lo ≤ x ∧ x ≤ hi) = false := by simp [h1']
      rw [e] at k
      exact k
abbrev sIsCell : Stmt := top 8
theorem scIsCell : FnScope ["many", "thing", "lowest", "mark"] ["many", "thing"] (defScope sIsCell) := ⟨rfl, rfl, rfl, by decide +kernel, rfl, by decide +kernel, by decide +kernel⟩

theorem ok_cell {f : Addr} {fd : FuncData} (F : Fun K "is_cell" "is_cell" sIsCell f fd) (T : Txt mg) (HB : Has P w K mg base "is_between" ["low", "high", "thing"] 2 spBetween) : FnOk P w K mg base CX0 3 f fd ["many", "thing"] spIsCell := by
  refine F.ok scIsCell (fun vs H Q E h => ?_) (fun cdv A outer s H vs Q E hr h => ?_)
  · obtain ⟨n, v, ms, rfl, _⟩ := h
    rfl
  · obtain ⟨n, v, ms, rfl, ⟨p, rfl, hp⟩, ok, k⟩ := h
    refine ⟨_, (pss_cons (ps_if (pt_not (pt_val (pe_callB call_isi rfl T.isinstance (by decide +kernel) (pa_cons (pv 1) (pa_cons (pe_bltn rfl T.tuple (by decide +kernel) (v := V.ty "tuple") rfl) pa_nil))))) (pss_one (ps_ret pe_bl)) pss_nil)
      (pss_cons (ps_set (i := 2) scIsCell.nd rfl (by first | exact Or.inl rfl | exact Or.inr rfl) pe_int)
      (pss_cons (ps_for PassesOwn.never rfl (pi_tup (pv 1)) (pg_name (i := 3) scIsCell.nd rfl (by first | exact Or.inl rfl | exact Or.inr rfl)) (pss_cons (ps_if (pt_not (pt_val (pe_callH HB (hr.mono (by decide)) rfl (pa_cons (pv 2) (pa_cons (pe_op op_sub (pv 0) pe_int) (pa_cons (pv 3) pa_nil)))))) (pss_one (ps_ret pe_bl)) pss_nil)
      (pss_one (ps_set (i := 2) scIsCell.nd rfl (by first | exact Or.inl rfl | exact Or.inr rfl) (pe_op op_add (pv 3) pe_int)))))
      (pss_one (ps_ret pe_bl))))), ?_⟩
    refine ⟨_, rfl, _, _, _, _, true, rfl, .ty _, .base (.tup hp), kit_ty (by decide +kernel), _, rfl, ?_⟩
    refine iteF ?_
    refine ⟨_, rfl, p, rfl, ⟨_, sqT hp⟩, for_tup (K := K) (a := p) (xs := ms.map V.int) (fun i σ H2 => H2 = H ∧ ∃ (z : Int) (v : Option V), σ = [some (.int n), some (.ref p), some (.int z), v] ∧ ∀ m, ms[i]? = some m → z ≤ m) ⟨rfl, 0, none, rfl, fun m hm => ok.lo m (List.mem_of_getElem? hm)⟩ (fun i σ H2 _ ⟨e, _⟩ => by rw [e]; exact sqT hp) ?_ ?_⟩
    · rintro i y σ H2 hi ⟨rfl, z, v, rfl, hz⟩
      obtain ⟨m, hm, rfl⟩ := int_of hi
      have mem := List.mem_of_getElem? hm
      have h1 := hz m hm
      have h2 := ok.hi m mem
      refine ⟨_, rfl, _, rfl, _, _, rfl, rfl, _, rfl, _, _, m, rfl, _, rfl, ?_⟩
      have e : decide (z ≤ m ∧ m ≤ n - 1) = true := decide_eq_true ⟨h1, by omega⟩
      refine ite2 (fun hf => ?_) (fun _ => ?_)
      · have hf' : (!decide (z ≤ m ∧ m ≤ n - 1)) = true := hf
        rw [e] at hf'
        cases hf'
      · refine ⟨_, rfl, _, _, rfl, rfl, ?_⟩
        refine ⟨rfl, m + 1, _, rfl, fun m' hm' => ?_⟩
        have hlt1 := (List.getElem?_eq_some_iff.mp hm)
        have hlt2 := (List.getElem?_eq_some_iff.mp hm')
        obtain ⟨l1, e1⟩ := hlt1
        obtain ⟨l2, e2⟩ := hlt2
        have := List.pairwise_iff_getElem.mp ok.up i (i + 1) l1 l2 (Nat.lt_succ_self i)
        omega
    · rintro σ H2 ⟨rfl, z, v, rfl, hz⟩
      exact k
abbrev sIsForm : Stmt := top 9
theorem scIsForm : FnScope ["thing", "letter"] ["thing"] (defScope sIsForm) := ⟨rfl, rfl, rfl, by decide +kernel, rfl, by decide +kernel, by decide +kernel⟩

theorem ok_form {f : Addr} {fd : FuncData} (F : Fun K "is_form" "is_form" sIsForm f fd) (T : Txt mg) (c : Cst mg) : FnOk P w K mg base CX0 1 f fd ["thing"] spIsForm := by
  refine F.ok scIsForm (fun vs H Q E h => ?_) (fun cdv A outer s H vs Q E hr h => ?_)
  · obtain ⟨z, rfl, _⟩ := h
    rfl
  · obtain ⟨z, rfl, ok, k⟩ := h
    refine ⟨_, (pss_cons (ps_if (PW.pt (pw_or (pt_not (pt_val (pe_callB call_isi rfl T.isinstance (by decide +kernel) (pa_cons (pv 0) (pa_cons (pe_bltn rfl T.str (by decide +kernel) (v := V.ty "str") rfl) pa_nil))))) (pw_or1 (pt_not (pt_chain op_le op_le pe_int (pe_callB call_len rfl T.len PySem.boot_len (pa_cons (pv 0) pa_nil)) (pe_gint rfl c.LONGEST_FORM)))))) (pss_one (ps_ret pe_bl)) pss_nil)
      (pss_cons (ps_for PassesOwn.never rfl (pi_str (pv 0)) (pg_name (i := 1) scIsForm.nd rfl (by first | exact Or.inl rfl | exact Or.inr rfl)) (pss_one (ps_if (pt_not (pt_chain op_le_str op_le_str pe_str (pv 1) pe_str)) (pss_one (ps_ret pe_bl)) pss_nil)))
      (pss_one (ps_ret pe_bl)))), ?_⟩
    refine ⟨_, rfl, _, _, _, _, true, rfl, .ty _, .base (.str _), kit_ty (by decide +kernel), _, rfl, ?_⟩
    refine iteF ?_
    have e1 : decide ((1 : Int) ≤ ((z.length : Nat) : Int)) = true := decide_eq_true (by have := ok.lo; omega)
    have e2 : decide (((z.length : Nat) : Int) ≤ (8 : Int)) = true := decide_eq_true (by have := ok.hi; omega)
    refine ⟨_, rfl, _, z.length, rfl, ⟨Nat.le_of_lt (small1000 (by have := ok.hi; omega)), rfl⟩, _, _, rfl, rfl, _, rfl, ?_⟩
    refine ite2 (fun _ => ?_) (fun hf => absurd e1 hf)
    refine ⟨_, _, rfl, rfl, _, rfl, ?_⟩
    refine ite2 (fun hf => ?_) (fun _ => ?_)
    · have hf' : (!decide (((z.length : Nat) : Int) ≤ (8 : Int))) = true := hf
      rw [e2] at hf'
      cases hf'
    refine ⟨_, rfl, z, rfl, for_it (walk_str (z := z)) (fun i σ H2 => H2 = H ∧ ∃ v : Option V, σ = [some (.str z), v]) ⟨rfl, none, rfl⟩ (fun _ _ _ _ _ => trivial) ?_ ?_⟩
    · rintro i x σ H2 H3 hi ⟨rfl, v, rfl⟩ ⟨rfl, l, hl, rfl⟩
      have mem : l ∈ z.cps.toList := by
        rw [← Array.getElem?_toList] at hl
        exact List.mem_of_getElem? hl
      obtain ⟨b1, b2⟩ := ok.az l mem
      have q1 : (!decide ((⟨#[l]⟩ : Str).cps.toList < (Str.ofString "a").cps.toList)) = true := by
        have : (Str.ofString "a").cps.toList = [97] := by decide +kernel
        rw [this]
        show (!decide ([l] < [97])) = true
        rw [decide_eq_false (fun h => by have := List.cons_lt_cons_iff.mp h; simp at this; omega)]
        rfl
      have q2 : (!decide ((Str.ofString "z").cps.toList < (⟨#[l]⟩ : Str).cps.toList)) = true := by
        have : (Str.ofString "z").cps.toList = [122] := by decide +kernel
        rw [this]
        show (!decide ([122] < [l])) = true
        rw [decide_eq_false (fun h => by have := List.cons_lt_cons_iff.mp h; simp at this; omega)]
        rfl
      refine ⟨_, rfl, _, _, rfl, rfl, _, rfl, ?_⟩
      refine ite2 (fun _ => ?_) (fun hf => absurd q1 hf)
      refine ⟨_, _, rfl, rfl, _, rfl, ?_⟩
      refine ite2 (fun hf => ?_) (fun _ => ⟨rfl, _, rfl⟩)
      have hf' : (!(!decide ((Str.ofString "z").cps.toList < (⟨#[l]⟩ : Str).cps.toList))) = true := hf
      rw [q2] at hf'
      cases hf'
    · rintro σ H2 ⟨rfl, v, rfl⟩
      exact k
abbrev sLiesWithin : Stmt := top 10
theorem scLiesWithin : FnScope ["inner", "outer", "mark"] ["inner", "outer"] (defScope sLiesWithin) := ⟨rfl, rfl, rfl, by decide +kernel, rfl, by decide +kernel, by decide +kernel⟩

theorem ok_lies {f : Addr} {fd : FuncData} (F : Fun K "lies_within" "lies_within" sLiesWithin f fd) : FnOk P w K mg base CX0 1 f fd ["inner", "outer"] spLies := by
  refine F.ok scLiesWithin (fun vs H Q E h => ?_) (fun cdv A outer s H vs Q E hr h => ?_)
  · obtain ⟨u, v, ms, ns, rfl, _⟩ := h
    rfl
  · obtain ⟨u, v, ms, ns, rfl, ⟨p, rfl, hp⟩, ⟨q, rfl, hq⟩, k⟩ := h
    refine ⟨_, (pss_cons (ps_for PassesOwn.never rfl (pi_tup (pv 0)) (pg_name (i := 2) scLiesWithin.nd rfl (by first | exact Or.inl rfl | exact Or.inr rfl)) (pss_one (ps_if (pt_cmpR op_notIn_seq (pv 2) (pv 1) (by with_unfolding_all rfl)) (pss_one (ps_ret pe_bl)) pss_nil)))
      (pss_one (ps_ret pe_bl))), ?_⟩
    refine ⟨_, rfl, p, rfl, ⟨_, sqT hp⟩, for_tup (K := K) (a := p) (xs := ms.map V.int) (fun i σ H2 => H2 = H ∧ inside (ms.take i) ns = true ∧ ∃ v : Option V, σ = [some (.ref p), some (.ref q), v]) ⟨rfl, rfl, none, rfl⟩ (fun i σ H2 _ ⟨e, _⟩ => by rw [e]; exact sqT hp) ?_ ?_⟩
    · rintro i y σ H2 hi ⟨rfl, hin, v, rfl⟩
      obtain ⟨m, hm, rfl⟩ := int_of hi
      have mem := List.mem_of_getElem? hm
      refine ⟨_, rfl, _, rfl, q, _, rfl, .inr (sqT hq), rfl, flat_ints ns, _, rfl, ?_⟩
      rw [inV_int]
      refine ite2 (fun hn => ?_) (fun hn => ?_)
      · have hn' : ¬ m ∈ ns := by simpa using hn
        have e : inside ms ns = false := by
          cases hh : inside ms ns with
          | false => rfl
          | true => exact absurd (of_decide_eq_true (List.all_eq_true.mp hh m mem)) hn'
        rw [e] at k
        exact k
      · have hn' : m ∈ ns := by simpa using hn
        refine ⟨rfl, ?_, _, rfl⟩
        have et : ms.take (i + 1) = ms.take i ++ [m] := by rw [List.take_add_one, hm]; rfl
        unfold inside at hin ⊢
        rw [et, List.all_append, hin]
        simp [hn']
    · rintro σ H2 ⟨rfl, hin, v, rfl⟩
      rw [List.length_map, List.take_length] at hin
      rw [hin] at k
      exact k
abbrev sIsEntry : Stmt := top 17
theorem scIsEntry : FnScope ["thing"] ["thing"] (defScope sIsEntry) := ⟨rfl, rfl, rfl, by decide +kernel, rfl, by decide +kernel, by decide +kernel⟩

theorem ok_entry {f : Addr} {fd : FuncData} (F : Fun K "is_entry" "is_entry" sIsEntry f fd) (T : Txt mg) (c : Cst mg) (HC : Has P w K mg base "is_cell" ["many", "thing"] 3 spIsCell) (HF : Has P w K mg base "is_form" ["thing"] 1 spIsForm) : FnOk P w K mg base CX0 4 f fd ["thing"] spIsEntry := by
  refine F.ok scIsEntry (fun vs H Q E h => ?_) (fun cdv A outer s H vs Q E hr h => ?_)
  · obtain ⟨v, e, rfl, _⟩ := h
    rfl
  · obtain ⟨v, e, rfl, ⟨u, ⟨p, rfl, hp⟩, mu⟩, ok, k⟩ := h
    refine ⟨_, (pss_one (ps_ret (pe_and (pe_callB call_isi rfl T.isinstance (by decide +kernel) (pa_cons (pv 0) (pa_cons (pe_bltn rfl T.tuple (by decide +kernel) (v := V.ty "tuple") rfl) pa_nil))) (pe_and (pe_cmpR op_eq (pe_callB call_len rfl T.len PySem.boot_len (pa_cons (pv 0) pa_nil)) pe_int (nomark _)) (pe_and (pe_callH HC (hr.mono (by decide)) rfl (pa_cons (pe_gint rfl c.MARKS) (pa_cons (pe_ix ix_tup (pv 0) pe_int (fun _ _ => rfl)) pa_nil))) (pe_one (pe_callH HF (hr.mono (by decide)) rfl (pa_cons (pe_ix ix_tup (pv 0) pe_int (fun _ _ => rfl)) pa_nil)))))))), ?_⟩
    refine ⟨_, rfl, _, _, _, _, true, rfl, .ty _, .base (.tup hp), kit_ty (by decide +kernel), _, rfl, ?_⟩
    refine ⟨_, rfl, _, 2, rfl, .inr ⟨_, sqT hp, rfl⟩, rfl, _, rfl, ?_⟩
    refine ⟨_, rfl, p, _, _, _, rfl, rfl, sqT hp, at_of (j := 0) rfl rfl, _, u, e.1, rfl, mu, ok.ms, _, rfl, ?_⟩
    exact ⟨_, rfl, p, _, _, _, rfl, rfl, sqT hp, at_of (j := 1) rfl rfl, e.2, rfl, ok.w, k⟩
abbrev sAreEntries : Stmt := top 18
theorem scAreEntries : FnScope ["thing", "entry"] ["thing"] (defScope sAreEntries) := ⟨rfl, rfl, rfl, by decide +kernel, rfl, by decide +kernel, by decide +kernel⟩

theorem ok_are {f : Addr} {fd : FuncData} (F : Fun K "_are_entries" "_are_entries" sAreEntries f fd) (T : Txt mg) (c : Cst mg) (HE : Has P w K mg base "is_entry" ["thing"] 4 spIsEntry) : FnOk P w K mg base CX0 5 f fd ["thing"] spAreEntries := by
  refine F.ok scAreEntries (fun vs H Q E h => ?_) (fun cdv A outer s H vs Q E hr h => ?_)
  · obtain ⟨p, ys, es, rfl, _⟩ := h
    rfl
  · obtain ⟨p, ys, es, rfl, hp, ents, ok, hl, k⟩ := h
    refine ⟨_, (pss_cons (ps_if (PW.pt (pw_or (pt_not (pt_val (pe_callB call_isi rfl T.isinstance (by decide +kernel) (pa_cons (pv 0) (pa_cons (pe_bltn rfl T.tuple (by decide +kernel) (v := V.ty "tuple") rfl) pa_nil))))) (pw_or1 (pt_cmpR op_gt (pe_callB call_len rfl T.len PySem.boot_len (pa_cons (pv 0) pa_nil)) (pe_gint rfl c.MOST_ENTRIES) (nomark _))))) (pss_one (ps_ret pe_bl)) pss_nil)
      (pss_cons (ps_for PassesOwn.never rfl (pi_tup (pv 0)) (pg_name (i := 1) scAreEntries.nd rfl (by first | exact Or.inl rfl | exact Or.inr rfl)) (pss_one (ps_if (pt_not (pt_val (pe_callH HE (hr.mono (by decide)) rfl (pa_cons (pv 1) pa_nil)))) (pss_one (ps_ret pe_bl)) pss_nil)))
      (pss_one (ps_ret pe_bl)))), ?_⟩
    have hyl := Paired.length ents
    refine ⟨_, rfl, _, _, _, _, true, rfl, .ty _, .base (.tup hp), kit_ty (by decide +kernel), _, rfl, ?_⟩
    refine iteF ?_
    refine ⟨_, rfl, _, ys.length, rfl, .inr ⟨_, sqT hp, rfl⟩, _, _, rfl, rfl, _, rfl, ?_⟩
    refine ite2 (fun hf => ?_) (fun _ => ?_)
    · have hf' : (40 : Int) < ((ys.length : Nat) : Int) := of_decide_eq_true hf
      omega
    refine ⟨_, rfl, p, rfl, ⟨_, sqT hp⟩, for_tup (K := K) (a := p) (xs := ys) (fun i σ H2 => H2 = H ∧ ∃ v : Option V, σ = [some (.ref p), v]) ⟨rfl, none, rfl⟩ (fun i σ H2 _ ⟨e, _⟩ => by rw [e]; exact sqT hp) ?_ ?_⟩
    · rintro i y σ H2 hi ⟨rfl, v, rfl⟩
      obtain ⟨e, he, ev⟩ := Paired.get ents hi
      refine ⟨_, rfl, y, e, rfl, ev, ok e (List.mem_of_getElem? he), _, rfl, ?_⟩
      exact iteF ⟨rfl, _, rfl⟩
    · rintro σ H2 ⟨rfl, v, rfl⟩
      exact k
abbrev sAreWeights : Stmt := top 19
theorem scAreWeights : FnScope ["manner", "thing", "weight"] ["manner", "thing"] (defScope sAreWeights) := ⟨rfl, rfl, rfl, by decide +kernel, rfl, by decide +kernel, by decide +kernel⟩

theorem ok_weights {f : Addr} {fd : FuncData} (F : Fun K "_are_weights" "_are_weights" sAreWeights f fd) (T : Txt mg) (c : Cst mg) (HB : Has P w K mg base "is_between" ["low", "high", "thing"] 2 spBetween) : FnOk P w K mg base CX0 3 f fd ["manner", "thing"] spAreWeights := by
  refine F.ok scAreWeights (fun vs H Q E h => ?_) (fun cdv A outer s H vs Q E hr h => ?_)
  · obtain ⟨man, wt, rfl, _⟩ := h
    rfl
  · obtain ⟨man, wt, rfl, hw, k⟩ := h
    refine ⟨_, (pss_cons (ps_if (pt_cmpR op_ne (pv 0) pe_str (nomark _)) (pss_one (ps_ret (pe_cmpR op_isN (pv 1) pe_non (nomark _)))) pss_nil)
      (pss_cons (ps_if (PW.pt (pw_or (pt_not (pt_val (pe_callB call_isi rfl T.isinstance (by decide +kernel) (pa_cons (pv 1) (pa_cons (pe_bltn rfl T.tuple (by decide +kernel) (v := V.ty "tuple") rfl) pa_nil))))) (pw_or1 (pt_cmpR op_ne (pe_callB call_len rfl T.len PySem.boot_len (pa_cons (pv 1) pa_nil)) (pe_gint rfl c.MARKS) (nomark _))))) (pss_one (ps_ret pe_bl)) pss_nil)
      (pss_cons (ps_for PassesOwn.never rfl (pi_tup (pv 1)) (pg_name (i := 2) scAreWeights.nd rfl (by first | exact Or.inl rfl | exact Or.inr rfl)) (pss_one (ps_if (pt_not (pt_val (pe_callH HB (hr.mono (by decide)) rfl (pa_cons pe_int (pa_cons (pe_gint rfl c.MOST_WEIGHT) (pa_cons (pv 2) pa_nil)))))) (pss_one (ps_ret pe_bl)) pss_nil)))
      (pss_one (ps_ret pe_bl))))), ?_⟩
    refine ⟨_, rfl, rfl, _, rfl, ?_⟩
    rcases hw with ⟨hn, rfl⟩ | ⟨rfl, ws, ⟨p, rfl, hp⟩, hl, hb⟩
    · refine ite2 (fun _ => ?_) (fun hf => ?_)
      · exact ⟨_, rfl, rfl, k⟩
      · refine absurd ?_ hf
        have : decide (V.str man = V.str "weights") = false := decide_eq_false fun e => hn (V.str.inj e)
        rw [this]
        rfl
    · refine ite2 (fun hf => ?_) (fun _ => ?_)
      · have e : decide (V.str "weights" = V.str "weights") = true := decide_eq_true rfl
        have hf' : (!decide (V.str "weights" = V.str "weights")) = true := hf
        rw [e] at hf'
        cases hf'
      refine ⟨_, rfl, _, _, _, _, true, rfl, .ty _, .base (.tup hp), kit_ty (by decide +kernel), _, rfl, ?_⟩
      refine iteF ?_
      refine ⟨_, rfl, _, 6, rfl, .inr ⟨_, sqT hp, by rw [List.length_map, hl]⟩, rfl, _, rfl, ?_⟩
      refine iteF ?_
      refine ⟨_, rfl, p, rfl, ⟨_, sqT hp⟩, for_tup (K := K) (a := p) (xs := ws.map V.int) (fun i σ H2 => H2 = H ∧ ∃ v : Option V, σ = [some (.str "weights"), some (.ref p), v]) ⟨rfl, none, rfl⟩ (fun i σ H2 _ ⟨e, _⟩ => by rw [e]; exact sqT hp) ?_ ?_⟩
      · rintro i y σ H2 hi ⟨rfl, v, rfl⟩
        obtain ⟨m, hm, rfl⟩ := int_of hi
        obtain ⟨b1, b2⟩ := hb m (List.mem_of_getElem? hm)
        refine ⟨_, rfl, _, _, m, rfl, _, rfl, ?_⟩
        have e : decide ((0 : Int) ≤ m ∧ m ≤ 1000000) = true := decide_eq_true ⟨b1, b2⟩
        refine ite2 (fun hf => ?_) (fun _ => ⟨rfl, _, rfl⟩)
        have hf' : (!decide ((0 : Int) ≤ m ∧ m ≤ 1000000)) = true := hf
        rw [e] at hf'
        cases hf'
      · rintro σ H2 ⟨rfl, v, rfl⟩
        exact k
end
end Xci

namespace Xci
open PySem L2

section
variable {P : Program} {w : World} {K : PySem.W.Frag} {mg : Str → Option Value} {base : Heap}
abbrev sBookInit : Stmt := inClass (top 16) 0
theorem scBookInit : FnScope ["self", "manner", "entries", "weights"] ["self", "manner", "entries", "weights"] (defScope sBookInit) := ⟨rfl, rfl, rfl, by decide +kernel, rfl, by decide +kernel, by decide +kernel⟩

theorem man_in {man : Str} (h : Man man) : inV (.str man) [.str "row", .str "within", .str "weights", .str "most"] = true := by
  rcases h with rfl | rfl | rfl | rfl <;> decide +kernel
theorem ok_book {f C aM : Addr} {fd : FuncData} (F : Fun K "__init__" "Book.__init__" sBookInit f fd) (T : Txt mg) (B : BkTxt K mg C aM) (HE : Has P w K mg base "_are_entries" ["thing"] 5 spAreEntries) (HW : Has P w K mg base "_are_weights" ["manner", "thing"] 3 spAreWeights) :
    FnOk P w K mg base CX0 6 f fd ["self", "manner", "entries", "weights"] (spBook C) := by
  refine F.ok scBookInit (fun vs H Q E h => ?_) (fun cdv A outer s H vs Q E hr h => ?_)
  · obtain ⟨x, dx, man, p, wt, ys, es, rfl, _⟩ := h
    rfl
  · obtain ⟨x, dx, man, p, wt, ys, es, rfl, hx, hm, hw, hp, ents, eok, el, k⟩ := h
    refine ⟨_, (pss_cons (ps_if (PW.pt (pw_or (pt_not (pt_val (pe_callB call_isi rfl T.isinstance (by decide +kernel) (pa_cons (pv 1) (pa_cons (pe_bltn rfl T.str (by decide +kernel) (v := V.ty "str") rfl) pa_nil))))) (pw_or1 (pt_cmpR op_notIn_seq (pv 1) (pe_glob (v := .ref aM) rfl B.mgM rfl) (by with_unfolding_all rfl))))) (pss_one ps_never) pss_nil)
      (pss_cons (ps_if (pt_not (pt_val (pe_callH HE (hr.mono (by decide)) rfl (pa_cons (pv 2) pa_nil)))) (pss_one ps_never) pss_nil)
      (pss_cons (ps_if (pt_not (pt_val (pe_callH HW (hr.mono (by decide)) rfl (pa_cons (pv 1) (pa_cons (pv 3) pa_nil))))) (pss_one ps_never) pss_nil)
      (pss_cons (ps_fld (pv 0) (pv 1) rfl)
      (pss_cons (ps_fld (pv 0) (pv 2) rfl)
      (pss_one (ps_fld (pv 0) (pv 3) rfl))))))), ?_⟩
    refine ⟨_, rfl, _, _, _, _, true, rfl, .ty _, .base (.str _), kit_ty (by decide +kernel), _, rfl, ?_⟩
    refine iteF ?_
    refine ⟨_, rfl, aM, _, rfl, .inr (B.man H), rfl, rfl, _, rfl, ?_⟩
    rw [man_in hm]
    refine iteF ?_
    refine ⟨_, rfl, p, ys, es, rfl, hp, ents, eok, el, _, rfl, ?_⟩
    refine iteF ?_
    refine ⟨_, rfl, _, rfl, man, wt, rfl, hw, _, rfl, ?_⟩
    refine iteF ?_
    refine ⟨_, rfl, _, rfl, x, C, dx, [], rfl, hx, B.cl, B.nM, (by show 0 < 1000; decide), ?_⟩
    refine ⟨_, rfl, _, rfl, x, C, dx, _, rfl, upd_same, B.cl, B.nE, (by show 1 < 1000; decide), ?_⟩
    refine ⟨_, rfl, _, rfl, x, C, dx, _, rfl, upd_same, B.cl, B.nW, (by rw [put1, put2]; show 2 < 1000; decide), ?_⟩
    refine k _ ⟨dx, ?_⟩ fun b o e hb => ?_
    · rw [upd_same, put1, put2, put3]
      rfl
    · rw [upd_ne hb, upd_ne hb, upd_ne hb]
      exact e
abbrev sFitting : Stmt := top 20
theorem scFitting : FnScope ["book", "cell", "number", "entry"] ["book", "cell"] (defScope sFitting) := ⟨rfl, rfl, rfl, by decide +kernel, rfl, by decide +kernel, by decide +kernel⟩

theorem ok_fitting {f C aM : Addr} {fd : FuncData} (F : Fun K "fitting" "fitting" sFitting f fd) (T : Txt mg) (c : Cst mg) (B : BkTxt K mg C aM) (HC : Has P w K mg base "is_cell" ["many", "thing"] 3 spIsCell) (HL : Has P w K mg base "lies_within" ["inner", "outer"] 1 spLies) :
    FnOk P w K mg base CX0 4 f fd ["book", "cell"] (spFitting C) := by
  refine F.ok scFitting (fun vs H Q E h => ?_) (fun cdv A outer s H vs Q E hr h => ?_)
  · obtain ⟨b, p, man, wt, v, ys, es, ms, rfl, _⟩ := h
    rfl
  · obtain ⟨b, p, man, wt, v, ys, es, ms, rfl, ⟨dx, hb⟩, hp, ents, eok, el, mv, mok, k⟩ := h
    refine ⟨_, (pss_cons (ps_if (pt_not (pt_val (pe_callH HC (hr.mono (by decide)) rfl (pa_cons (pe_gint rfl c.MARKS) (pa_cons (pv 1) pa_nil))))) (pss_one ps_never) pss_nil)
      (pss_one (ps_ret (pe_callTy call_tuple_of rfl T.tuple (by decide +kernel) (pa_cons (pe_lc (own := [("number", 2), ("entry", 3)]) rfl scFitting.nd (pi_enumT rfl T.enumerate (pa_cons (pe_fld (pv 0) rfl) pa_nil)) (blkOk_by (N := ["book", "cell", "number", "entry"]) (sc := defScope sFitting) (by decide +kernel)) (fun _ _ _ _ _ => (show PG _ _ (gTup K 2 _) from pg_tup rfl (pgs_cons (pg_name (i := 2) scFitting.nd rfl (by first | exact Or.inl rfl | exact Or.inr rfl)) (pgs_cons (pg_name (i := 3) scFitting.nd rfl (by first | exact Or.inl rfl | exact Or.inr rfl)) pgs_nil)))) (fun _ _ _ _ _ => pts_one (pt_val (pe_callH HL (hr.mono (by decide)) rfl (pa_cons (pe_ix (show IxR _ (rIxT K) from ix_tup) (pv 3) pe_int (fun _ _ => rfl)) (pa_cons (pv 1) pa_nil))))) (fun _ _ _ _ _ => (pv 2))) pa_nil))))), ?_⟩
    refine ⟨_, rfl, _, v, ms, rfl, mv, mok, _, rfl, ?_⟩
    refine iteF ?_
    have hyl := Paired.length ents
    refine ⟨_, rfl, b, C, dx, _, _, rfl, hb, B.cl, B.nE, bf_entries _ _ _, p, ys, rfl, sqT hp, fun D hD => ?_⟩
    refine lc_it (walk_enumT (K := K) (a := p) (xs := ys)) (fun i H4 => Same H H4 ∧ H4 D = some (.lst ((nat2 ((List.range i).filter (fitP es ms))).map V.int))) ⟨Same.new hD, upd_same⟩ (fun i H4 _ ⟨e, _⟩ => sqT (e _ _ hp)) ?_ ?_
    · rintro i x H4 H5 hi ⟨sm, e4⟩ ⟨t, y, rfl, ht, rfl, hy⟩
      obtain ⟨e, he, u, ⟨r0, rfl, hr0⟩, mu⟩ := Paired.get ents hy
      have s5 : Same H4 (upd H4 t (.tup [.int (i : Nat), .ref r0])) := Same.new ht
      have et : (upd H4 t (.tup [.int (i : Nat), .ref r0])) t = some (.tup [.int (i : Nat), .ref r0]) := upd_same
      generalize upd H4 t (.tup [.int (i : Nat), .ref r0]) = H5 at *
      have s15 := sm.trans s5
      refine ⟨t, _, rfl, sqT et, rfl, _, _, rfl, _, _, rfl, rfl, rfl, ?_⟩
      refine ⟨_, rfl, r0, _, _, _, rfl, rfl, sqT (s15 _ _ hr0), at_of (j := 0) rfl rfl, _, rfl, u, v, e.1, ms, rfl, Tup.keep (TFr.same s15) mu, Tup.keep (TFr.same s15) mv, _, rfl, ?_⟩
      have e5 := s5 _ _ e4
      refine ite2 (fun hn => ?_) (fun hn => ?_)
      · refine ⟨_, rfl, _, e5, by rw [List.length_map]; exact small1000 (Nat.le_trans (fit_len es ms i) (by omega)), fun b o h => by rw [upd_ne (ne_of_none h hD)]; exact s15 b o h, ?_⟩
        rw [upd_same, fit_take, fitP_at he, if_pos hn, nat2_app, List.map_append]
        rfl
      · refine ⟨s15, ?_⟩
        rw [e5, fit_take, fitP_at he, if_neg hn, List.append_nil]
    · rintro H4 ⟨sm, e4⟩
      rw [hyl] at e4
      refine ⟨D, _, rfl, .inl ⟨SqL.of e4, fun l hl => ?_⟩⟩
      exact k l _ upd_same (sm.trans (Same.new hl))
abbrev sLawFits : Stmt := top 42
theorem scLawFits : FnScope ["entries", "cell", "number"] ["entries", "cell"] (defScope sLawFits) := ⟨rfl, rfl, rfl, by decide +kernel, rfl, by decide +kernel, by decide +kernel⟩

theorem ok_fits {f : Addr} {fd : FuncData} (F : Fun K "_law_fits" "_law_fits" sLawFits f fd) (T : Txt mg) (HI : Has P w K mg base "_law_in" ["one", "other"] 1 spIn) : FnOk P w K mg base CX0 2 f fd ["entries", "cell"] (spFits K) := by
  refine F.ok scLawFits (fun vs H Q E h => ?_) (fun cdv A outer s H vs Q E hr h => ?_)
  · obtain ⟨p, v, ys, es, ms, rfl, _⟩ := h
    rfl
  · obtain ⟨p, v, ys, es, ms, rfl, hp, ents, eok, el, mv, k⟩ := h
    refine ⟨_, (pss_one (ps_ret (pe_lc (own := [("number", 2)]) rfl scLawFits.nd (pi_range1 rfl T.range (pa_cons (pe_callB call_len rfl T.len PySem.boot_len (pa_cons (pv 0) pa_nil)) pa_nil)) (blkOk_by (N := ["entries", "cell", "number"]) (sc := defScope sLawFits) (by decide +kernel)) (fun _ _ _ _ _ => (pg_name (i := 2) scLawFits.nd rfl (by first | exact Or.inl rfl | exact Or.inr rfl))) (fun _ _ _ _ _ => pts_one (pt_val (pe_callH HI (hr.mono (by decide)) rfl (pa_cons (pe_ix (show IxR _ (rIxT K) from ix_tup) (pe_ix (show IxR _ (rIxT K) from ix_tup) (pv 0) (pv 2) (fun _ _ => rfl)) pe_int (fun _ _ => rfl)) (pa_cons (pv 1) pa_nil))))) (fun _ _ _ _ _ => (pv 2))))), ?_⟩
    have hyl := Paired.length ents
    refine ⟨_, rfl, _, ys.length, rfl, .inr ⟨_, sqT hp, rfl⟩, _, rfl, by omega, by omega, fun D hD => ?_⟩
    refine lc_range (n := ((ys.length : Nat) : Int).toNat) (fun i H4 => Same H H4 ∧ H4 D = some (.lst ((nat2 ((List.range i).filter (fitP es ms))).map V.int))) ⟨Same.new hD, upd_same⟩ ?_ ?_
    · rintro i H4 hi ⟨sm, e4⟩
      have hi' : i < ys.length := by omega
      have hy : ys[i]? = some ys[i] := List.getElem?_eq_getElem hi'
      obtain ⟨e, he, u, ⟨r0, er0, hr0⟩, mu⟩ := Paired.get ents hy
      have ek := (eok e (List.mem_of_getElem? he)).ms.len
      refine ⟨rfl, _, rfl, _, rfl, p, _, _, _, rfl, rfl, sqT (sm _ _ hp), at_of (j := i) (by omega) hy, ?_⟩
      rw [er0]
      refine ⟨r0, _, _, _, rfl, rfl, sqT (sm _ _ hr0), at_of (j := 0) rfl rfl, _, rfl, u, v, e.1, ms, rfl, Tup.keep (TFr.same sm) mu, Tup.keep (TFr.same sm) mv, by omega, fun H5 s5 => ⟨_, rfl, ?_⟩⟩
      have e5 := s5 _ _ e4
      have s15 := sm.trans s5
      refine ite2 (fun hn => ?_) (fun hn => ?_)
      · refine ⟨_, rfl, _, e5, by rw [List.length_map]; exact small1000 (Nat.le_trans (fit_len es ms i) (by omega)), fun b o h => by rw [upd_ne (ne_of_none h hD)]; exact s15 b o h, ?_⟩
        rw [upd_same, fit_take, fitP_at he, if_pos hn, nat2_app, List.map_append, Int.zero_add]
        rfl
      · refine ⟨s15, ?_⟩
        rw [e5, fit_take, fitP_at he, if_neg hn, List.append_nil]
    · rintro H4 ⟨sm, e4⟩
      rw [Int.toNat_natCast, hyl] at e4
      exact k D H4 e4 sm
abbrev sLawLike : Stmt := top 45
theorem scLawLike : FnScope ["told", "due", "at"] ["told", "due"] (defScope sLawLike) := ⟨rfl, rfl, rfl, by decide +kernel, rfl, by decide +kernel, by decide +kernel⟩

theorem ok_like0 {f : Addr} {fd : FuncData} (F : Fun K "_law_like" "_law_like" sLawLike f fd) (T : Txt mg) : FnOk P w K mg base CX0 1 f fd ["told", "due"] spLike0 := by
  refine F.ok scLawLike (fun vs H Q E h => ?_) (fun cdv A outer s H vs Q E hr h => ?_)
  · obtain ⟨x, rfl, _⟩ := h
    rfl
  · obtain ⟨x, rfl, hf, k⟩ := h
    refine ⟨_, (pss_cons (ps_if (pt_val (pe_callB call_isiT rfl T.isinstance (by decide +kernel) (pa_cons (pv 1) (pa_cons (pe_tup (pa_cons (pe_bltn rfl T.tuple (by decide +kernel) (v := V.ty "tuple") rfl) (pa_cons (pe_bltn rfl T.list (by decide +kernel) (v := V.ty "list") rfl) pa_nil))) pa_nil)))) pss_never pss_nil)
      (pss_one (ps_ret (pe_and (pe_cmpR op_eq (pe_callB call_isi rfl T.isinstance (by decide +kernel) (pa_cons (pv 0) (pa_cons (pe_bltn rfl T.bool (by decide +kernel) (v := V.ty "bool") rfl) pa_nil))) (pe_callB call_isi rfl T.isinstance (by decide +kernel) (pa_cons (pv 1) (pa_cons (pe_bltn rfl T.bool (by decide +kernel) (v := V.ty "bool") rfl) pa_nil))) (nomark _)) (pe_one (pe_cmpR op_eq (pv 0) (pv 1) (nomark _))))))), ?_⟩
    refine ⟨_, rfl, (by show 2 ≤ sizeLine; decide), fun t ht => ?_⟩
    have et : (upd H t (.tup [.ty "tuple", .ty "list"])) t = some (.tup [.ty "tuple", .ty "list"]) := upd_same
    have s1 : Same H (upd H t (.tup [.ty "tuple", .ty "list"])) := Same.new ht
    cases x with
    | int i =>
      refine ⟨_, t, _, _, [.type "tuple", .type "list"], false, rfl, et, .cons (.ty _) (.cons (.ty _) .nil), .base (.int _), isi_tl (by decide +kernel) (by decide +kernel), _, rfl, ?_⟩
      refine iteF ?_
      refine ⟨_, rfl, _, _, _, _, false, rfl, .ty _, .base (.int _), kit_ty (by decide +kernel), _, rfl, _, _, _, _, false, rfl, .ty _, .base (.int _), kit_ty (by decide +kernel), rfl, _, rfl, ?_⟩
      refine ⟨_, rfl, _, rfl, rfl, ?_⟩
      have e : decide (V.int i = V.int i) = true := decide_eq_true rfl
      rw [e]
      exact k _ s1
    | str i =>
      refine ⟨_, t, _, _, [.type "tuple", .type "list"], false, rfl, et, .cons (.ty _) (.cons (.ty _) .nil), .base (.str _), isi_tl (by decide +kernel) (by decide +kernel), _, rfl, ?_⟩
      refine iteF ?_
      refine ⟨_, rfl, _, _, _, _, false, rfl, .ty _, .base (.str _), kit_ty (by decide +kernel), _, rfl, _, _, _, _, false, rfl, .ty _, .base (.str _), kit_ty (by decide +kernel), rfl, _, rfl, ?_⟩
      refine ⟨_, rfl, _, rfl, rfl, ?_⟩
      have e : decide (V.str i = V.str i) = true := decide_eq_true rfl
      rw [e]
      exact k _ s1
    | non => cases hf
    | bl _ => cases hf
    | byt _ => cases hf
    | flt _ => cases hf
    | ref _ => cases hf
    | ty _ => cases hf
theorem ok_like1 {f : Addr} {fd : FuncData} (F : Fun K "_law_like" "_law_like" sLawLike f fd) (T : Txt mg) (HL : Has P w K mg base "_law_like" ["told", "due"] 1 spLike0) : FnOk P w K mg base CX0 2 f fd ["told", "due"] spLike1 := by
  refine F.ok scLawLike (fun vs H Q E h => ?_) (fun cdv A outer s H vs Q E hr h => ?_)
  · obtain ⟨u, v, xs, rfl, _⟩ := h
    rfl
  · obtain ⟨u, v, xs, rfl, ⟨p, rfl, hp⟩, ⟨q, rfl, hq⟩, hf, hl, k⟩ := h
    refine ⟨_, (pss_cons (ps_if (pt_val (pe_callB call_isiT rfl T.isinstance (by decide +kernel) (pa_cons (pv 1) (pa_cons (pe_tup (pa_cons (pe_bltn rfl T.tuple (by decide +kernel) (v := V.ty "tuple") rfl) (pa_cons (pe_bltn rfl T.list (by decide +kernel) (v := V.ty "list") rfl) pa_nil))) pa_nil)))) (pss_cons (ps_if (PW.pt (pw_or (pt_cmpR op_ne (pe_callB call_isi rfl T.isinstance (by decide +kernel) (pa_cons (pv 0) (pa_cons (pe_bltn rfl T.tuple (by decide +kernel) (v := V.ty "tuple") rfl) pa_nil))) (pe_callB call_isi rfl T.isinstance (by decide +kernel) (pa_cons (pv 1) (pa_cons (pe_bltn rfl T.tuple (by decide +kernel) (v := V.ty "tuple") rfl) pa_nil))) (nomark _)) (pw_or1 (pt_cmpR op_ne (pe_callB call_isi rfl T.isinstance (by decide +kernel) (pa_cons (pv 0) (pa_cons (pe_bltn rfl T.list (by decide +kernel) (v := V.ty "list") rfl) pa_nil))) (pe_callB call_isi rfl T.isinstance (by decide +kernel) (pa_cons (pv 1) (pa_cons (pe_bltn rfl T.list (by decide +kernel) (v := V.ty "list") rfl) pa_nil))) (nomark _))))) (pss_one (ps_ret pe_bl)) pss_nil)
      (pss_one (ps_ret (pe_and (pe_cmpR op_eq (pe_callB call_len rfl T.len PySem.boot_len (pa_cons (pv 0) pa_nil)) (pe_callB call_len rfl T.len PySem.boot_len (pa_cons (pv 1) pa_nil)) (nomark _)) (pe_one (pe_callB (cr_all rfl) rfl T.all (by decide +kernel) (pa_cons (pe_lc (own := [("at", 2)]) rfl scLawLike.nd (pi_range1 rfl T.range (pa_cons (pe_callB call_len rfl T.len PySem.boot_len (pa_cons (pv 1) pa_nil)) pa_nil)) (blkOk_by (N := ["told", "due", "at"]) (sc := defScope sLawLike) (by decide +kernel)) (fun _ _ _ _ _ => (pg_name (i := 2) scLawLike.nd rfl (by first | exact Or.inl rfl | exact Or.inr rfl))) (fun _ _ _ _ _ => pts_nil) (fun _ _ _ _ _ => (pe_callH HL (hr.mono (by decide)) rfl (pa_cons (pe_ix (show IxR _ (rIxT K) from ix_tup) (pv 0) (pv 2) (fun _ _ => rfl)) (pa_cons (pe_ix (show IxR _ (rIxT K) from ix_tup) (pv 1) (pv 2) (fun _ _ => rfl)) pa_nil))))) pa_nil))))))) pss_nil)
      pss_never), ?_⟩
    refine ⟨_, rfl, (by show 2 ≤ sizeLine; decide), fun t ht => ?_⟩
    have et : (upd H t (.tup [.ty "tuple", .ty "list"])) t = some (.tup [.ty "tuple", .ty "list"]) := upd_same
    have s1 : Same H (upd H t (.tup [.ty "tuple", .ty "list"])) := Same.new ht
    generalize upd H t (.tup [.ty "tuple", .ty "list"]) = H1 at *
    have hp1 := s1 _ _ hp
    have hq1 := s1 _ _ hq
    refine ⟨_, t, _, _, [.type "tuple", .type "list"], true, rfl, et, .cons (.ty _) (.cons (.ty _) .nil), .base (.tup hq1), isi_tup, _, rfl, ?_⟩
    refine iteT ?_
    refine ⟨_, rfl, _, _, _, _, true, rfl, .ty _, .base (.tup hp1), kit_ty (by decide +kernel), _, rfl, _, _, _, _, true, rfl, .ty _, .base (.tup hq1), kit_ty (by decide +kernel), rfl, _, rfl, ?_⟩
    refine iteF ?_
    refine ⟨_, rfl, _, _, _, _, false, rfl, .ty _, .base (.tup hp1), kit_ty (by decide +kernel), _, rfl, _, _, _, _, false, rfl, .ty _, .base (.tup hq1), kit_ty (by decide +kernel), rfl, _, rfl, ?_⟩
    refine iteF ?_
    refine ⟨_, rfl, _, xs.length, rfl, .inr ⟨_, sqT hp1, rfl⟩, _, rfl, _, xs.length, rfl, .inr ⟨_, sqT hq1, rfl⟩, rfl, _, rfl, ?_⟩
    refine ite2 (fun _ => ?_) (fun h => absurd (decide_eq_true rfl) h)
    refine ⟨_, rfl, _, xs.length, rfl, .inr ⟨_, sqT hq1, rfl⟩, _, rfl, by omega, by omega, fun D hD => ?_⟩
    refine lc_range (n := ((xs.length : Nat) : Int).toNat) (fun i H4 => Same H1 H4 ∧ ∃ bs : List Bool, H4 D = some (.lst (bs.map V.bl)) ∧ bs.all id = true ∧ bs.length ≤ i) ⟨Same.new hD, [], upd_same, rfl, Nat.le_refl _⟩ ?_ ?_
    · rintro i H4 hi ⟨sm, bs, e4, hb, hbl⟩
      have hi' : i < xs.length := by omega
      have hx : xs[i]? = some xs[i] := List.getElem?_eq_getElem hi'
      have hfx := List.all_eq_true.mp hf _ (List.getElem_mem hi')
      refine ⟨rfl, _, rfl, _, rfl, p, _, _, _, rfl, rfl, sqT (sm _ _ hp1), at_of (j := i) (by omega) hx, _, rfl, _, rfl, q, _, _, _, rfl, rfl, sqT (sm _ _ hq1), at_of (j := i) (by omega) hx, _, rfl, hfx, fun H5 s5 => ?_⟩
      refine ⟨_, s5 _ _ e4, by rw [List.length_map]; exact small1000 (by omega), fun b o h => by rw [upd_ne (ne_of_none h hD)]; exact s5 _ _ (sm _ _ h), bs ++ [true], by rw [upd_same, List.map_append]; rfl, ?_, by rw [List.length_append]; exact Nat.succ_le_succ hbl⟩
      rw [List.all_append, hb]
      rfl
    · rintro H4 ⟨sm, bs, e4, hb, hbl⟩
      refine ⟨D, bs, rfl, SqL.of e4, ?_⟩
      rw [hb]
      exact k _ (s1.trans sm)
end
end Xci

namespace Xci
open PySem L2

section
variable {P : Program} {w : World} {K : PySem.W.Frag} {mg : Str → Option Value} {base : Heap}
abbrev sRank : Stmt := top 21
theorem scRank : FnScope ["book", "number", "marks", "mark"] ["book", "number"] (defScope sRank) := ⟨rfl, rfl, rfl, by decide +kernel, rfl, by decide +kernel, by decide +kernel⟩

theorem ent_at {H : Hp} {ys : List V} {es : List Ent} {j : Nat} (ents : Ents H ys es) (hj : j < es.length) : ∃ (r : Addr) (u : V) (e : Ent), ys[j]? = some (.ref r) ∧ H r = some (.tup [u, .str e.2]) ∧ Xci.Mk H u e.1 ∧ es[j]? = some e := by
  obtain ⟨y, hy, u, ⟨r, rfl, hr⟩, mu⟩ := Paired.get' ents (List.getElem?_eq_getElem hj)
  exact ⟨r, u, es[j], hy, hr, mu, List.getElem?_eq_getElem hj⟩
theorem mk_ent {es : List Ent} {j : Nat} {e : Ent} (ok : ∀ e ∈ es, EntOk e) (h : es[j]? = some e) : MarksOk 6 e.1 := (ok e (List.mem_of_getElem? h)).ms
theorem ws_at {ws : List Int} {m : Int} (hl : ws.length = 6) (h0 : 0 ≤ m) (h1 : m < 6) : (ws.map V.int)[m.toNat]? = some (.int (ws.getD m.toNat 0)) := by
  have hm : m.toNat < ws.length := by omega
  rw [List.getElem?_map, List.getElem?_eq_getElem hm]
  simp [List.getD_eq_getElem?_getD, List.getElem?_eq_getElem hm]
theorem take_map {α β : Type} {f : α → β} {l : List α} {i : Nat} {x : α} (h : l[i]? = some x) : (l.take (i + 1)).map f = (l.take i).map f ++ [f x] := by
  rw [List.take_add_one, h, List.map_append]
  rfl
theorem ok_rank {f C aM : Addr} {fd : FuncData} (F : Fun K "rank" "rank" sRank f fd) (T : Txt mg) (B : BkTxt K mg C aM) : FnOk P w K mg base CX0 1 f fd ["book", "number"] (spRank C) := by
  refine F.ok scRank (fun vs H Q E h => ?_) (fun cdv A outer s H vs Q E hr h => ?_)
  · obtain ⟨b, man, ws, es, j, rfl, _⟩ := h
    rfl
  · obtain ⟨b, man, ws, es, j, rfl, ⟨⟨p, wt, ys, ⟨dx, hb⟩, hp, ents, hw⟩, ok, hl⟩, hj, k⟩ := h
    refine ⟨_, (pss_cons (ps_set (i := 2) scRank.nd rfl (by first | exact Or.inl rfl | exact Or.inr rfl) (pe_ix ix_tup (pe_ix ix_tup (pe_fld (pv 0) rfl) (pv 1) (fun _ _ => rfl)) pe_int (fun _ _ => rfl)))
      (pss_cons (ps_if (pt_cmpR op_eq (pe_fld (pv 0) rfl) pe_str (nomark _)) (pss_one (ps_ret (pe_callB (cr_sum rfl) rfl T.sum (by decide +kernel) (pa_cons (pe_lc (own := [("mark", 3)]) rfl scRank.nd (pi_tup (pv 2)) (blkOk_by (N := ["book", "number", "marks", "mark"]) (sc := defScope sRank) (by decide +kernel)) (fun _ _ _ _ _ => (pg_name (i := 3) scRank.nd rfl (by first | exact Or.inl rfl | exact Or.inr rfl))) (fun _ _ _ _ _ => pts_nil) (fun _ _ _ _ _ => (pe_ix (show IxR _ (rIxT K) from ix_tup) (show PE _ _ (tFld K _ _) from pe_fld (pv 0) rfl) (pv 3) (fun _ _ => rfl)))) pa_nil)))) pss_nil)
      (pss_one (ps_ret (pe_callB call_len rfl T.len PySem.boot_len (pa_cons (pv 2) pa_nil)))))), ?_⟩
    obtain ⟨r, u, e, hy, hr0, ⟨q, rfl, hq⟩, he⟩ := ent_at ents hj
    have mok := mk_ent ok he
    refine ⟨_, rfl, b, C, dx, _, _, rfl, hb, B.cl, B.nE, bf_entries _ _ _, _, rfl, p, _, _, _, rfl, rfl, sqT hp, at_of (j := j) rfl hy, r, _, _, _, rfl, rfl, sqT hr0, at_of (j := 0) rfl rfl, ?_⟩
    refine ⟨_, rfl, b, C, dx, _, _, rfl, hb, B.cl, B.nM, bf_manner _ _ _, rfl, _, rfl, ?_⟩
    rcases hw with ⟨hn, rfl⟩ | ⟨rfl, mw, hwl, hwb⟩
    · refine ite2 (fun hf => absurd (V.str.inj (of_decide_eq_true hf)) hn) (fun _ => ?_)
      refine ⟨_, rfl, _, _, rfl, .inr ⟨_, sqT hq, rfl⟩, ?_⟩
      have e1 : rkA man ws es j = ((e.1.map V.int).length : Nat) := by
        unfold rkA rk
        rw [if_neg hn, mkA_at he, List.length_map]
      have k' := k H (Same.refl H)
      rw [e1] at k'
      exact k'
    · refine ite2 (fun _ => ?_) (fun hf => absurd (decide_eq_true rfl) hf)
      obtain ⟨wp, rfl, hwp⟩ := mw
      refine ⟨_, rfl, q, rfl, ⟨_, sqT hq⟩, fun D hD => ?_⟩
      have ml := mok.len
      refine lc_tup (K := K) (a := q) (xs := e.1.map V.int) (fun i H4 => Same H H4 ∧ H4 D = some (.lst (((e.1.take i).map fun m => ws.getD m.toNat 0).map V.int))) ⟨Same.new hD, upd_same⟩ (fun i H4 _ ⟨s4, _⟩ => sqT (s4 _ _ hq)) ?_ ?_
      · rintro i y H4 hi ⟨sm, e4⟩
        obtain ⟨m, hm, rfl⟩ := int_of hi
        have mem := List.mem_of_getElem? hm
        have h0 := mok.lo m mem
        have h1 := mok.hi m mem
        refine ⟨rfl, _, rfl, b, C, dx, _, _, rfl, sm _ _ hb, B.cl, B.nW, bf_weights _ _ _, _, rfl, wp, _, _, _, rfl, rfl, sqT (sm _ _ hwp), at_of (j := m.toNat) (by omega) (ws_at hwl h0 h1), ?_⟩
        refine ⟨_, e4, by rw [List.length_map, List.length_map, List.length_take]; exact small1000 (by omega), fun b o h => by rw [upd_ne (ne_of_none h hD)]; exact sm b o h, ?_⟩
        rw [upd_same, take_map hm, List.map_append]
        rfl
      · rintro H4 ⟨sm, e4⟩
        rw [List.length_map, List.take_length] at e4
        refine ⟨D, _, rfl, SqL.of e4, ?_⟩
        have e1 : rkA "weights" ws es j = (e.1.map fun m => ws.getD m.toNat 0).sum := by
          unfold rkA rk
          rw [if_pos rfl, mkA_at he]
        have k' := k H4 sm
        rw [e1] at k'
        exact k'
abbrev sHighest : Stmt := top 22
theorem scHighest : FnScope ["book", "numbers", "ranks", "number", "best", "reached"] ["book", "numbers"] (defScope sHighest) := ⟨rfl, rfl, rfl, by decide +kernel, rfl, by decide +kernel, by decide +kernel⟩

theorem filt_snoc {α : Type} {p : α → Bool} {l : List α} {i : Nat} {x : α} (h : l[i]? = some x) : (l.take (i + 1)).filter p = (l.take i).filter p ++ if p x = true then [x] else [] := by
  rw [List.take_add_one, h, List.filter_append]
  show _ ++ List.filter p [x] = _
  rw [List.filter_cons, List.filter_nil]
theorem ok_highest {f C : Addr} {fd : FuncData} (F : Fun K "_highest" "_highest" sHighest f fd) (T : Txt mg) (HR : Has P w K mg base "rank" ["book", "number"] 1 (spRank C)) : FnOk P w K mg base CX0 2 f fd ["book", "numbers"] (spHighest C) := by
  refine F.ok scHighest (fun vs H Q E h => ?_) (fun cdv A outer s H vs Q E hr h => ?_)
  · obtain ⟨b, q, man, ws, es, js, rfl, _⟩ := h
    rfl
  · obtain ⟨b, q, man, ws, es, js, rfl, bs, hq, hlt, hne, hjl, k⟩ := h
    refine ⟨_, (C8.pss_cut (ps_setLc (i := 2) (own := [("number", 3)]) rfl scHighest.nd rfl rfl (sw_true rfl rfl rfl (by decide +kernel)) (pi_tup (pv 1)) (blkOk_by (N := ["book", "numbers", "ranks", "number", "best", "reached"]) (sc := defScope sHighest) (by decide +kernel)) (fun _ _ _ _ _ => (pg_name (i := 3) scHighest.nd rfl (by first | exact Or.inl rfl | exact Or.inr rfl))) (fun _ _ _ _ _ => pts_nil) (fun _ _ _ _ _ => (pe_callH HR (hr.mono (by decide)) rfl (pa_cons (pv 0) (pa_cons (pv 3) pa_nil)))))
      (C8.pss_cut (ps_set (i := 4) scHighest.nd rfl (by first | exact Or.inl rfl | exact Or.inr rfl) (pe_callB (cr_max rfl) rfl T.max (by decide +kernel) (pa_cons (pv 2) pa_nil)))
      (pss_one (ps_ret (pe_callTy call_tuple_of rfl T.tuple (by decide +kernel) (pa_cons (pe_lc (own := [("number", 3), ("reached", 5)]) rfl scHighest.nd (pi_zipM rfl T.zip (pa_cons (pv 1) (pa_cons (pv 2) pa_nil))) (blkOk_by (N := ["book", "numbers", "ranks", "number", "best", "reached"]) (sc := defScope sHighest) (by decide +kernel)) (fun _ _ _ _ _ => (show PG _ _ (gTup K 2 _) from pg_tup rfl (pgs_cons (pg_name (i := 3) scHighest.nd rfl (by first | exact Or.inl rfl | exact Or.inr rfl)) (pgs_cons (pg_name (i := 5) scHighest.nd rfl (by first | exact Or.inl rfl | exact Or.inr rfl)) pgs_nil)))) (fun _ _ _ _ _ => pts_one (pt_cmpR op_eq (pv 5) (pv 4) (nomark _))) (fun _ _ _ _ _ => (pv 3))) pa_nil)))))), ?_⟩
    have hq : H q = some (.tup ((nat2 js).map V.int)) := hq
    refine ⟨fun σ' H1 => Same H H1 ∧ ∃ D : Addr, H1 D = some (.lst ((js.map (rkA man ws es)).map V.int)) ∧ σ' = [some (.ref b), some (.ref q), some (.ref D), none, none, none], ?_, ?_⟩
    · refine ⟨_, rfl, q, rfl, ⟨_, sqT hq⟩, fun D hD => ?_⟩
      refine lc_tup (K := K) (a := q) (xs := (nat2 js).map V.int) (fun i H4 => Same H H4 ∧ H4 D = some (.lst (((js.take i).map (rkA man ws es)).map V.int))) ⟨Same.new hD, upd_same⟩ (fun i H4 _ ⟨s4, _⟩ => sqT (s4 _ _ hq)) ?_ ?_
      · rintro i y H4 hi ⟨sm, e4⟩
        obtain ⟨j, hj, rfl⟩ := num_of hi
        have hj40 := (List.getElem?_eq_some_iff.mp hj).1
        refine ⟨rfl, _, rfl, _, rfl, b, man, ws, es, j, rfl, bs.same sm, hlt j (List.mem_of_getElem? hj), fun H5 s5 => ?_⟩
        refine ⟨_, s5 _ _ e4, by rw [List.length_map, List.length_map, List.length_take]; exact small1000 (by omega), fun b o h => by rw [upd_ne (ne_of_none h hD)]; exact s5 _ _ (sm b o h), ?_⟩
        rw [upd_same, take_map hj, List.map_append]
        rfl
      · rintro H4 ⟨sm, e4⟩
        rw [List.length_map, nat2_len, List.take_length] at e4
        exact ⟨sm, D, e4, rfl⟩
    rintro σ' H1 ⟨s1, D, eD, rfl⟩
    refine ⟨fun σ' H2 => H2 = H1 ∧ ∃ m : Int, IsMax js (rkA man ws es) m ∧ σ' = [some (.ref b), some (.ref q), some (.ref D), none, some (.int m), none], ?_, ?_⟩
    · refine ⟨_, rfl, D, _, rfl, SqL.of eD, by rw [List.length_map]; exact List.length_pos_iff.mpr hne, fun m hm hle => ?_⟩
      refine ⟨rfl, m, ⟨?_, fun j hj => hle _ (List.mem_map_of_mem hj)⟩, rfl⟩
      obtain ⟨j, hj, e⟩ := List.mem_map.mp hm
      exact ⟨j, hj, e⟩
    rintro σ' H2 ⟨rfl, m, M, rfl⟩
    have hq2 := s1 _ _ hq
    have ll : ((nat2 js).map V.int).length = ((js.map (rkA man ws es)).map V.int).length := by rw [List.length_map, nat2_len, List.length_map, List.length_map]
    refine ⟨_, rfl, _, rfl, q, D, _, _, rfl, ⟨sqT hq2, SqL.of eD⟩, fun L hL => ?_⟩
    refine lc_it (walk_zipM (K := K) (a := q) (b := D) ll) (fun i H4 => Same H2 H4 ∧ H4 L = some (.lst ((nat2 ((js.take i).filter fun j => decide (rkA man ws es j = m))).map V.int))) ⟨Same.new hL, upd_same⟩ (fun i H4 _ ⟨s4, _⟩ => ⟨sqT (s4 _ _ hq2), SqL.of (s4 _ _ eD)⟩) ?_ ?_
    · rintro i x H4 H5 hi ⟨sm, e4⟩ ⟨t, x1, x2, rfl, ht, rfl, hx1, hx2⟩
      obtain ⟨j, hj, rfl⟩ := num_of hx1
      obtain ⟨z, hz, rfl⟩ := int_of hx2
      rw [List.getElem?_map, hj] at hz
      obtain rfl : rkA man ws es j = z := Option.some.inj hz
      have s5 : Same H4 (upd H4 t (.tup [.int (j : Int), .int (rkA man ws es j)])) := Same.new ht
      have et : (upd H4 t (.tup [.int (j : Int), .int (rkA man ws es j)])) t = some (.tup [.int (j : Int), .int (rkA man ws es j)]) := upd_same
      generalize upd H4 t (.tup [.int (j : Int), .int (rkA man ws es j)]) = H5 at *
      have e5 := s5 _ _ e4
      have hj40 := (List.getElem?_eq_some_iff.mp hj).1
      refine ⟨t, _, rfl, sqT et, rfl, _, _, rfl, _, _, rfl, rfl, rfl, ?_⟩
      refine ⟨_, rfl, _, rfl, rfl, _, rfl, ?_⟩
      have dd : decide (V.int (rkA man ws es j) = V.int m) = decide (rkA man ws es j = m) := by
        rw [Bool.eq_iff_iff, decide_eq_true_iff, decide_eq_true_iff]
        exact ⟨fun h => V.int.inj h, fun h => by rw [h]⟩
      rw [dd]
      refine ite2 (fun hn => ?_) (fun hn => ?_)
      · refine ⟨_, rfl, _, e5, ?_, fun b o h => by rw [upd_ne (ne_of_none h hL)]; exact s5 _ _ (sm b o h), ?_⟩
        · rw [List.length_map, nat2_len]
          exact small1000 (Nat.le_trans (List.length_filter_le _ _) (by rw [List.length_take]; omega))
        · rw [upd_same, filt_snoc hj, if_pos hn, nat2_app, List.map_append]
          rfl
      · refine ⟨sm.trans s5, ?_⟩
        rw [e5, filt_snoc hj, if_neg hn, List.append_nil]
    · rintro H4 ⟨sm, e4⟩
      rw [List.length_map, nat2_len, List.take_length] at e4
      refine ⟨L, _, rfl, .inl ⟨SqL.of e4, fun t ht => ?_⟩⟩
      exact k t m _ M upd_same ((s1.trans sm).trans (Same.new ht))
abbrev sHoldsAll : Stmt := top 24
theorem scHoldsAll : FnScope ["book", "number", "numbers", "marks", "other"] ["book", "number", "numbers"] (defScope sHoldsAll) := ⟨rfl, rfl, rfl, by decide +kernel, rfl, by decide +kernel, by decide +kernel⟩

theorem ok_holds {f C aM : Addr} {fd : FuncData} (F : Fun K "_holds_all" "_holds_all" sHoldsAll f fd) (T : Txt mg) (B : BkTxt K mg C aM) (HL : Has P w K mg base "lies_within" ["inner", "outer"] 1 spLies) : FnOk P w K mg base CX0 2 f fd ["book", "number", "numbers"] (spHolds C) := by
  refine F.ok scHoldsAll (fun vs H Q E h => ?_) (fun cdv A outer s H vs Q E hr h => ?_)
  · obtain ⟨b, q, man, ws, es, js, n, rfl, _⟩ := h
    rfl
  · obtain ⟨b, q, man, ws, es, js, n, rfl, ⟨⟨p, wt, ys, ⟨dx, hb⟩, hp, ents, hw⟩, ok, hl⟩, hq, hlt, hn, hjl, k⟩ := h
    refine ⟨_, (pss_cons (ps_set (i := 3) scHoldsAll.nd rfl (by first | exact Or.inl rfl | exact Or.inr rfl) (pe_ix ix_tup (pe_ix ix_tup (pe_fld (pv 0) rfl) (pv 1) (fun _ _ => rfl)) pe_int (fun _ _ => rfl)))
      (pss_one (ps_ret (pe_callB (cr_all rfl) rfl T.all (by decide +kernel) (pa_cons (pe_lc (own := [("other", 4)]) rfl scHoldsAll.nd (pi_tup (pv 2)) (blkOk_by (N := ["book", "number", "numbers", "marks", "other"]) (sc := defScope sHoldsAll) (by decide +kernel)) (fun _ _ _ _ _ => (pg_name (i := 4) scHoldsAll.nd rfl (by first | exact Or.inl rfl | exact Or.inr rfl))) (fun _ _ _ _ _ => pts_nil) (fun _ _ _ _ _ => (pe_callH HL (hr.mono (by decide)) rfl (pa_cons (pe_ix (show IxR _ (rIxT K) from ix_tup) (pe_ix (show IxR _ (rIxT K) from ix_tup) (show PE _ _ (tFld K _ _) from pe_fld (pv 0) rfl) (pv 4) (fun _ _ => rfl)) pe_int (fun _ _ => rfl)) (pa_cons (pv 3) pa_nil))))) pa_nil))))), ?_⟩
    have hq : H q = some (.tup ((nat2 js).map V.int)) := hq
    obtain ⟨r, u, e, hy, hr0, mu, he⟩ := ent_at ents hn
    refine ⟨_, rfl, b, C, dx, _, _, rfl, hb, B.cl, B.nE, bf_entries _ _ _, _, rfl, p, _, _, _, rfl, rfl, sqT hp, at_of (j := n) rfl hy, r, _, _, _, rfl, rfl, sqT hr0, at_of (j := 0) rfl rfl, ?_⟩
    refine ⟨_, rfl, q, rfl, ⟨_, sqT hq⟩, fun D hD => ?_⟩
    refine lc_tup (K := K) (a := q) (xs := (nat2 js).map V.int) (fun i H4 => Same H H4 ∧ H4 D = some (.lst (((js.take i).map fun o => inside (mkA es o) (mkA es n)).map V.bl))) ⟨Same.new hD, upd_same⟩ (fun i H4 _ ⟨s4, _⟩ => sqT (s4 _ _ hq)) ?_ ?_
    · rintro i y H4 hi ⟨sm, e4⟩
      obtain ⟨j, hj, rfl⟩ := num_of hi
      have hj40 := (List.getElem?_eq_some_iff.mp hj).1
      obtain ⟨r1, u1, e1, hy1, hr1, mu1, he1⟩ := ent_at ents (hlt j (List.mem_of_getElem? hj))
      refine ⟨rfl, _, rfl, b, C, dx, _, _, rfl, sm _ _ hb, B.cl, B.nE, bf_entries _ _ _, _, rfl, p, _, _, _, rfl, rfl, sqT (sm _ _ hp), at_of (j := j) rfl hy1, r1, _, _, _, rfl, rfl, sqT (sm _ _ hr1), at_of (j := 0) rfl rfl, _, rfl, u1, u, e1.1, e.1, rfl, Tup.keep (TFr.same sm) mu1, Tup.keep (TFr.same sm) mu, ?_⟩
      refine ⟨_, e4, by rw [List.length_map, List.length_map, List.length_take]; exact small1000 (by omega), fun b o h => by rw [upd_ne (ne_of_none h hD)]; exact sm b o h, ?_⟩
      rw [upd_same, take_map hj, List.map_append, mkA_at he1, mkA_at he]
      rfl
    · rintro H4 ⟨sm, e4⟩
      rw [List.length_map, nat2_len, List.take_length] at e4
      refine ⟨D, _, rfl, SqL.of e4, ?_⟩
      have ee : (js.map fun o => inside (mkA es o) (mkA es n)).all id = holds es js n := by
        unfold holds
        rw [List.all_map]
        rfl
      rw [ee]
      exact k H4 sm
abbrev sIsOutdone : Stmt := top 26
theorem scIsOutdone : FnScope ["book", "number", "numbers", "marks", "larger", "other", "held"] ["book", "number", "numbers"] (defScope sIsOutdone) := ⟨rfl, rfl, rfl, by decide +kernel, rfl, by decide +kernel, by decide +kernel⟩

theorem ok_outdone {f C aM : Addr} {fd : FuncData} (F : Fun K "_is_outdone" "_is_outdone" sIsOutdone f fd) (T : Txt mg) (B : BkTxt K mg C aM) (HL : Has P w K mg base "lies_within" ["inner", "outer"] 1 spLies) : FnOk P w K mg base CX0 2 f fd ["book", "number", "numbers"] (spOutdone C) := by
  refine F.ok scIsOutdone (fun vs H Q E h => ?_) (fun cdv A outer s H vs Q E hr h => ?_)
  · obtain ⟨b, q, man, ws, es, js, n, rfl, _⟩ := h
    rfl
  · obtain ⟨b, q, man, ws, es, js, n, rfl, ⟨⟨p, wt, ys, ⟨dx, hb⟩, hp, ents, hw⟩, ok, hl⟩, hq, hlt, hn, hjl, k⟩ := h
    refine ⟨_, (pss_cons (ps_set (i := 3) scIsOutdone.nd rfl (by first | exact Or.inl rfl | exact Or.inr rfl) (pe_ix ix_tup (pe_ix ix_tup (pe_fld (pv 0) rfl) (pv 1) (fun _ _ => rfl)) pe_int (fun _ _ => rfl)))
      (C8.pss_cut (ps_setLc (i := 4) (own := [("other", 5)]) rfl scIsOutdone.nd rfl rfl (sw_true rfl rfl rfl (by decide +kernel)) (pi_tup (pv 2)) (blkOk_by (N := ["book", "number", "numbers", "marks", "larger", "other", "held"]) (sc := defScope sIsOutdone) (by decide +kernel)) (fun _ _ _ _ _ => (pg_name (i := 5) scIsOutdone.nd rfl (by first | exact Or.inl rfl | exact Or.inr rfl))) (fun _ _ _ _ _ => pts_one (pt_cmpR op_gt (pe_callB (show CallR _ _ (rLen K) from call_lenK) rfl T.len PySem.boot_len (pa_cons (pe_ix (show IxR _ (rIxT K) from ix_tup) (pe_ix (show IxR _ (rIxT K) from ix_tup) (show PE _ _ (tFld K _ _) from pe_fld (pv 0) rfl) (pv 5) (fun _ _ => rfl)) pe_int (fun _ _ => rfl)) pa_nil)) (pe_callB (show CallR _ _ (rLen K) from call_lenK) rfl T.len PySem.boot_len (pa_cons (pv 3) pa_nil)) (nomark _))) (fun _ _ _ _ _ => (pe_ix (show IxR _ (rIxT K) from ix_tup) (pe_ix (show IxR _ (rIxT K) from ix_tup) (show PE _ _ (tFld K _ _) from pe_fld (pv 0) rfl) (pv 5) (fun _ _ => rfl)) pe_int (fun _ _ => rfl))))
      (pss_one (ps_ret (pe_callB (cr_any rfl) rfl T.any (by decide +kernel) (pa_cons (pe_lc (own := [("held", 6)]) rfl scIsOutdone.nd (pi_list (pv 4)) (blkOk_by (N := ["book", "number", "numbers", "marks", "larger", "other", "held"]) (sc := defScope sIsOutdone) (by decide +kernel)) (fun _ _ _ _ _ => (pg_name (i := 6) scIsOutdone.nd rfl (by first | exact Or.inl rfl | exact Or.inr rfl))) (fun _ _ _ _ _ => pts_nil) (fun _ _ _ _ _ => (pe_callH HL (hr.mono (by decide)) rfl (pa_cons (pv 3) (pa_cons (pv 6) pa_nil))))) pa_nil)))))), ?_⟩
    have hq : H q = some (.tup ((nat2 js).map V.int)) := hq
    obtain ⟨r, u, e, hy, hr0, mu, he⟩ := ent_at ents hn
    refine ⟨_, rfl, b, C, dx, _, _, rfl, hb, B.cl, B.nE, bf_entries _ _ _, _, rfl, p, _, _, _, rfl, rfl, sqT hp, at_of (j := n) rfl hy, r, _, _, _, rfl, rfl, sqT hr0, at_of (j := 0) rfl rfl, ?_⟩
    obtain ⟨mq, rfl, hmq⟩ := id mu
    refine ⟨fun σ' H1 => Same H H1 ∧ ∃ (L : Addr) (us : List V), H1 L = some (.lst us) ∧ Mks H1 us ((js.filter fun o => decide ((mkA es n).length < (mkA es o).length)).map (mkA es)) ∧ σ' = [some (.ref b), some (.int (n : Int)), some (.ref q), some (.ref mq), some (.ref L), none, none], ?_, ?_⟩
    · refine ⟨_, rfl, q, rfl, ⟨_, sqT hq⟩, fun D hD => ?_⟩
      refine lc_tup (K := K) (a := q) (xs := (nat2 js).map V.int) (fun i H4 => Same H H4 ∧ ∃ us : List V, H4 D = some (.lst us) ∧ Mks H4 us (((js.take i).filter fun o => decide ((mkA es n).length < (mkA es o).length)).map (mkA es))) ⟨Same.new hD, [], upd_same, .nil⟩ (fun i H4 _ ⟨s4, _⟩ => sqT (s4 _ _ hq)) ?_ ?_
      · rintro i y H4 hi ⟨sm, us, e4, m4⟩
        obtain ⟨j, hj, rfl⟩ := num_of hi
        have hj40 := (List.getElem?_eq_some_iff.mp hj).1
        obtain ⟨r1, u1, e1, hy1, hr1, ⟨m1q, rfl, hm1⟩, he1⟩ := ent_at ents (hlt j (List.mem_of_getElem? hj))
        refine ⟨rfl, _, rfl, b, C, dx, _, _, rfl, sm _ _ hb, B.cl, B.nE, bf_entries _ _ _, _, rfl, p, _, _, _, rfl, rfl, sqT (sm _ _ hp), at_of (j := j) rfl hy1, r1, _, _, _, rfl, rfl, sqT (sm _ _ hr1), at_of (j := 0) rfl rfl, _, _, rfl, .inr ⟨_, sqT (sm _ _ hm1), rfl⟩, _, rfl, _, _, rfl, .inr ⟨_, sqT (sm _ _ hmq), rfl⟩, _, _, rfl, rfl, _, rfl, ?_⟩
        have ul : us.length ≤ 40 := by
          rw [Paired.length m4, List.length_map]
          exact Nat.le_trans (List.length_filter_le _ _) (by rw [List.length_take]; omega)
        have cond : decide ((((e.1.map V.int).length : Nat) : Int) < (((e1.1.map V.int).length : Nat) : Int)) = decide ((mkA es n).length < (mkA es j).length) := by
          rw [mkA_at he1, mkA_at he, List.length_map, List.length_map, Bool.eq_iff_iff, decide_eq_true_iff, decide_eq_true_iff]
          omega
        rw [cond]
        refine ite2 (fun hc => ?_) (fun hc => ?_)
        · refine ⟨_, rfl, b, C, dx, _, _, rfl, sm _ _ hb, B.cl, B.nE, bf_entries _ _ _, _, rfl, p, _, _, _, rfl, rfl, sqT (sm _ _ hp), at_of (j := j) rfl hy1, r1, _, _, _, rfl, rfl, sqT (sm _ _ hr1), at_of (j := 0) rfl rfl, ?_⟩
          refine ⟨us, e4, small1000 (by omega), fun b o h => by rw [upd_ne (ne_of_none h hD)]; exact sm b o h, us ++ [.ref m1q], upd_same, ?_⟩
          rw [filt_snoc hj, if_pos hc, List.map_append]
          have tf : TFr H4 (upd H4 D (.lst (us ++ [.ref m1q]))) := TFr.lst e4
          exact Paired.app (m4.keep tf) (Paired.one ⟨m1q, rfl, by rw [mkA_at he1]; exact tf _ _ (sm _ _ hm1)⟩)
        · refine ⟨sm, us, e4, ?_⟩
          rw [filt_snoc hj, if_neg hc, List.append_nil]
          exact m4
      · rintro H4 ⟨sm, us, e4, m4⟩
        rw [List.length_map, nat2_len, List.take_length] at m4
        exact ⟨sm, D, us, e4, m4, rfl⟩
    rintro σ' H1 ⟨s1, L, us, eL, mL, rfl⟩
    refine ⟨_, rfl, L, rfl, ⟨_, SqL.of eL⟩, fun D hD => ?_⟩
    have ul : us.length ≤ 40 := by
      rw [Paired.length mL, List.length_map]
      exact Nat.le_trans (List.length_filter_le _ _) (by omega)
    refine lc_list (K := K) (a := L) (xs := us) (fun i H4 => Same H1 H4 ∧ H4 D = some (.lst (((((js.filter fun o => decide ((mkA es n).length < (mkA es o).length)).map (mkA es)).take i).map fun k => inside (mkA es n) k).map V.bl))) ⟨Same.new hD, upd_same⟩ (fun i H4 _ ⟨s4, _⟩ => SqL.of (s4 _ _ eL)) ?_ ?_
    · rintro i y H4 hi ⟨sm, e4⟩
      obtain ⟨ks, hks, ty⟩ := Paired.get mL hi
      have hi40 := (List.getElem?_eq_some_iff.mp hi).1
      refine ⟨rfl, _, rfl, _, rfl, .ref mq, y, e.1, ks, rfl, ⟨mq, rfl, sm _ _ (s1 _ _ hmq)⟩, Tup.keep (TFr.same sm) ty, ?_⟩
      refine ⟨_, e4, by rw [List.length_map, List.length_map, List.length_take]; exact small1000 (by omega), fun b o h => by rw [upd_ne (ne_of_none h hD)]; exact sm b o h, ?_⟩
      rw [upd_same, take_map hks, List.map_append, mkA_at he]
      rfl
    · rintro H4 ⟨sm, e4⟩
      rw [Paired.length mL, List.take_length] at e4
      refine ⟨D, _, rfl, SqL.of e4, ?_⟩
      have ee : (((js.filter fun o => decide ((mkA es n).length < (mkA es o).length)).map (mkA es)).map fun k => inside (mkA es n) k).any id = outdone es js n := by
        unfold outdone
        rw [List.map_map, List.any_map]
        rfl
      rw [ee]
      exact k H4 (s1.trans sm)
abbrev sInQuarrel : Stmt := top 25
theorem scInQuarrel : FnScope ["book", "numbers", "number"] ["book", "numbers"] (defScope sInQuarrel) := ⟨rfl, rfl, rfl, by decide +kernel, rfl, by decide +kernel, by decide +kernel⟩

theorem ok_quarrel {f C aM : Addr} {fd : FuncData} (F : Fun K "_in_quarrel" "_in_quarrel" sInQuarrel f fd) (T : Txt mg) (B : BkTxt K mg C aM) (HH : Has P w K mg base "_highest" ["book", "numbers"] 2 (spHighest C)) (HU : Has P w K mg base "_is_outdone" ["book", "number", "numbers"] 2 (spOutdone C)) :
    FnOk P w K mg base CX0 3 f fd ["book", "numbers"] (spQuarrel C) := by
  refine F.ok scInQuarrel (fun vs H Q E h => ?_) (fun cdv A outer s H vs Q E hr h => ?_)
  · obtain ⟨b, q, man, ws, es, js, rfl, _⟩ := h
    rfl
  · obtain ⟨b, q, man, ws, es, js, rfl, bs, hq, hlt, hne, hjl, k⟩ := h
    refine ⟨_, (pss_cons (ps_if (pt_cmpR op_ne (pe_fld (pv 0) rfl) pe_str (nomark _)) (pss_one (ps_ret (pe_callH HH (hr.mono (by decide)) rfl (pa_cons (pv 0) (pa_cons (pv 1) pa_nil))))) pss_nil)
      (pss_one (ps_ret (pe_callTy call_tuple_of rfl T.tuple (by decide +kernel) (pa_cons (pe_lc (own := [("number", 2)]) rfl scInQuarrel.nd (pi_tup (pv 1)) (blkOk_by (N := ["book", "numbers", "number"]) (sc := defScope sInQuarrel) (by decide +kernel)) (fun _ _ _ _ _ => (pg_name (i := 2) scInQuarrel.nd rfl (by first | exact Or.inl rfl | exact Or.inr rfl))) (fun _ _ _ _ _ => pts_one (pt_not (pt_val (pe_callH HU (hr.mono (by decide)) rfl (pa_cons (pv 0) (pa_cons (pv 2) (pa_cons (pv 1) pa_nil))))))) (fun _ _ _ _ _ => (pv 2))) pa_nil))))), ?_⟩
    obtain ⟨p, wt, ys, ⟨dx, hb⟩, hp, ents, hw⟩ := bs.ex
    have hq : H q = some (.tup ((nat2 js).map V.int)) := hq
    refine ⟨_, rfl, b, C, dx, _, _, rfl, hb, B.cl, B.nM, bf_manner _ _ _, rfl, _, rfl, ?_⟩
    by_cases hm : man = "within"
    · subst hm
      have d0 : (!decide (V.str "within" = V.str "within")) = false := by rw [decide_eq_true rfl]; rfl
      refine ite2 (fun hf => ?_) (fun _ => ?_)
      · rw [d0] at hf; cases hf
      refine ⟨_, rfl, q, rfl, ⟨_, sqT hq⟩, fun D hD => ?_⟩
      refine lc_tup (K := K) (a := q) (xs := (nat2 js).map V.int) (fun i H4 => Same H H4 ∧ H4 D = some (.lst ((nat2 ((js.take i).filter fun n => !outdone es js n)).map V.int))) ⟨Same.new hD, upd_same⟩ (fun i H4 _ ⟨s4, _⟩ => sqT (s4 _ _ hq)) ?_ ?_
      · rintro i y H4 hi ⟨sm, e4⟩
        obtain ⟨j, hj, rfl⟩ := num_of hi
        have hj40 := (List.getElem?_eq_some_iff.mp hj).1
        refine ⟨rfl, _, rfl, _, rfl, _, rfl, b, q, "within", ws, es, js, j, rfl, bs.same sm, sm _ _ hq, hlt, hlt j (List.mem_of_getElem? hj), hjl, fun H5 s5 => ⟨_, rfl, ?_⟩⟩
        have e5 := s5 _ _ e4
        refine ite2 (fun hn => ?_) (fun hn => ?_)
        · refine ⟨_, rfl, _, e5, ?_, fun b o h => by rw [upd_ne (ne_of_none h hD)]; exact s5 _ _ (sm b o h), ?_⟩
          · rw [List.length_map, nat2_len]
            exact small1000 (Nat.le_trans (List.length_filter_le _ _) (by rw [List.length_take]; omega))
          · rw [upd_same, filt_snoc hj, if_pos hn, nat2_app, List.map_append]
            rfl
        · refine ⟨sm.trans s5, ?_⟩
          rw [e5, filt_snoc hj, if_neg hn, List.append_nil]
      · rintro H4 ⟨sm, e4⟩
        rw [List.length_map, nat2_len, List.take_length, ← out_maxB (ws := ws)] at e4
        refine ⟨D, _, rfl, .inl ⟨SqL.of e4, fun t ht => ?_⟩⟩
        exact k t _ upd_same (sm.trans (Same.new ht))
    · have d0 : (!decide (V.str man = V.str "within")) = true := by
        rw [decide_eq_false fun e => hm (V.str.inj e)]
        rfl
      refine ite2 (fun _ => ?_) (fun hf => absurd d0 hf)
      refine ⟨_, rfl, _, rfl, b, q, man, ws, es, js, rfl, bs, hq, hlt, hne, hjl, fun t m H1 M ht s1 => ?_⟩
      refine k t H1 ?_ s1
      rw [hi_maxB hm M]
      exact ht
abbrev sSpeaking : Stmt := top 23
theorem scSpeaking : FnScope ["book", "numbers", "highest"] ["book", "numbers"] (defScope sSpeaking) := ⟨rfl, rfl, rfl, by decide +kernel, rfl, by decide +kernel, by decide +kernel⟩

theorem man3_row {man : Str} (h : Man3 man) : man ≠ "row" := by
  rcases h with rfl | rfl | rfl <;> decide +kernel
theorem ok_speaking {f C aM : Addr} {fd : FuncData} (F : Fun K "speaking" "speaking" sSpeaking f fd) (T : Txt mg) (B : BkTxt K mg C aM) (HH : Has P w K mg base "_highest" ["book", "numbers"] 2 (spHighest C)) (HO : Has P w K mg base "_holds_all" ["book", "number", "numbers"] 2 (spHolds C)) :
    FnOk P w K mg base CX0 3 f fd ["book", "numbers"] (spSpeaking C) := by
  refine F.ok scSpeaking (fun vs H Q E h => ?_) (fun cdv A outer s H vs Q E hr h => ?_)
  · obtain ⟨b, q, man, ws, es, js, rfl, _⟩ := h
    rfl
  · obtain ⟨b, q, man, ws, es, js, rfl, bs, hman, hq, hlt, hnd, hjl, k⟩ := h
    refine ⟨_, (pss_cons (ps_if (pt_not (pt_truth (pv 1) (fun _ => rfl))) (pss_one (ps_ret pe_non)) pss_nil)
      (pss_cons (ps_if (pt_cmpR op_eq (pe_fld (pv 0) rfl) pe_str (nomark _)) (pss_one ps_never) pss_nil)
      (pss_cons (ps_set (i := 2) scSpeaking.nd rfl (by first | exact Or.inl rfl | exact Or.inr rfl) (pe_callH HH (hr.mono (by decide)) rfl (pa_cons (pv 0) (pa_cons (pv 1) pa_nil))))
      (pss_cons (ps_if (pt_cmpR op_gt (pe_callB call_len rfl T.len PySem.boot_len (pa_cons (pv 2) pa_nil)) pe_int (nomark _)) (pss_one (ps_ret pe_non)) pss_nil)
      (pss_cons (ps_if (PW.pt (pw_and (pt_cmpR op_eq (pe_fld (pv 0) rfl) pe_str (nomark _)) (pw_and1 (pt_not (pt_val (pe_callH HO (hr.mono (by decide)) rfl (pa_cons (pv 0) (pa_cons (pe_ix ix_tup (pv 2) pe_int (fun _ _ => rfl)) (pa_cons (pv 1) pa_nil))))))))) (pss_one (ps_ret pe_non)) pss_nil)
      (pss_one (ps_ret (pe_ix ix_tup (pv 2) pe_int (fun _ _ => rfl))))))))), ?_⟩
    obtain ⟨p, wt, ys, ⟨dx, hb⟩, hp, ents, hw⟩ := bs.ex
    have hq : H q = some (.tup ((nat2 js).map V.int)) := hq
    refine ⟨_, rfl, _, .inr (.inl ⟨_, sqT hq, rfl⟩), ?_⟩
    by_cases hne : js = []
    · subst hne
      exact iteT (k H (Same.refl H))
    have ne1 : (!!((nat2 js).map V.int).isEmpty) = false := by
      cases js with
      | nil => exact absurd rfl hne
      | cons j r => rfl
    refine ite2 (fun hf => ?_) (fun _ => ?_)
    · have hf' : (!!((nat2 js).map V.int).isEmpty) = true := hf
      rw [ne1] at hf'
      cases hf'
    refine ⟨_, rfl, b, C, dx, _, _, rfl, hb, B.cl, B.nM, bf_manner _ _ _, rfl, _, rfl, ?_⟩
    refine ite2 (fun hf => absurd (V.str.inj (of_decide_eq_true hf)) (man3_row hman)) (fun _ => ?_)
    refine ⟨_, rfl, _, rfl, b, q, man, ws, es, js, rfl, bs, hq, hlt, hne, hjl, fun t m H1 M ht s1 => ?_⟩
    have ht1 : H1 t = some (.tup ((nat2 (hi js (rkA man ws es) m)).map V.int)) := ht
    clear ht
    have hb1 := s1 _ _ hb
    refine ⟨_, rfl, _, _, rfl, .inr ⟨_, sqT ht1, rfl⟩, _, _, rfl, rfl, _, rfl, ?_⟩
    by_cases hmany : 1 < (hi js (rkA man ws es) m).length
    · refine ite2 (fun _ => ?_) (fun hf => ?_)
      · have e := lawRes_qua (beatA_ok man ws es) hnd hne (many_noWin hnd M hmany)
        rw [e] at k
        exact k H1 s1
      · refine absurd (decide_eq_true ?_) hf
        rw [List.length_map, nat2_len]
        omega
    have hone : ∃ n, hi js (rkA man ws es) m = [n] := by
      have := hi_ne M
      match hh : hi js (rkA man ws es) m with
      | [] => exact absurd hh this
      | [n] => exact ⟨n, rfl⟩
      | x :: y :: r => rw [hh] at hmany; simp at hmany
    obtain ⟨n, hn⟩ := hone
    have hnj := (hi_one M hn).1
    refine ite2 (fun hf => ?_) (fun _ => ?_)
    · have := of_decide_eq_true hf
      rw [List.length_map, nat2_len] at this
      omega
    rw [hn] at ht1
    refine ⟨_, rfl, b, C, dx, _, _, rfl, hb1, B.cl, B.nM, bf_manner _ _ _, rfl, _, rfl, ?_⟩
    by_cases hm : man = "within"
    · subst hm
      refine ite2 (fun _ => ?_) (fun hf => absurd (decide_eq_true rfl) hf)
      refine ⟨_, rfl, _, rfl, t, _, _, _, rfl, rfl, sqT ht1, at_of (j := 0) rfl rfl, _, rfl, b, q, "within", ws, es, js, n, rfl, bs.same s1, s1 _ _ hq, hlt, hlt n hnj, hjl, fun H2 s2 => ⟨_, rfl, ?_⟩⟩
      cases hh : holds es js n with
      | false =>
        refine iteT ?_
        have e := lawRes_qua (beatA_ok "within" ws es) hnd hne (within_noWin M hn hh)
        rw [e] at k
        exact k H2 (s1.trans s2)
      | true =>
        refine iteF ?_
        have e := lawRes_ent (beatA_ok "within" ws es) hnd (within_Win M hn hh)
        rw [e] at k
        exact ⟨_, rfl, t, _, _, _, rfl, rfl, sqT (s2 _ _ ht1), at_of (j := 0) rfl rfl, k H2 (s1.trans s2)⟩
    · refine ite2 (fun hf => absurd (V.str.inj (of_decide_eq_true hf)) hm) (fun _ => ?_)
      refine iteF ?_
      have e := lawRes_ent (beatA_ok man ws es) hnd (one_Win hm M hn)
      rw [e] at k
      exact ⟨_, rfl, t, _, _, _, rfl, rfl, sqT ht1, at_of (j := 0) rfl rfl, k H1 s1⟩
abbrev sSpeaker : Stmt := top 27
theorem scSpeaker : FnScope ["book", "cell", "numbers", "number"] ["book", "cell"] (defScope sSpeaker) := ⟨rfl, rfl, rfl, by decide +kernel, rfl, by decide +kernel, by decide +kernel⟩

theorem ok_speaker {f C aM : Addr} {fd : FuncData} (F : Fun K "speaker" "speaker" sSpeaker f fd) (B : BkTxt K mg C aM) (HF : Has P w K mg base "fitting" ["book", "cell"] 4 (spFitting C)) (HS : Has P w K mg base "speaking" ["book", "numbers"] 3 (spSpeaking C)) (HQ : Has P w K mg base "_in_quarrel" ["book", "numbers"] 3 (spQuarrel C)) :
    FnOk P w K mg base CX0 5 f fd ["book", "cell"] (spSpeaker C) := by
  refine F.ok scSpeaker (fun vs H Q E h => ?_) (fun cdv A outer s H vs Q E hr h => ?_)
  · obtain ⟨b, v, man, ws, es, ms, rfl, _⟩ := h
    rfl
  · obtain ⟨b, v, man, ws, es, ms, rfl, bs, hman, mv, mok, k⟩ := h
    refine ⟨_, (pss_cons (ps_set (i := 2) scSpeaker.nd rfl (by first | exact Or.inl rfl | exact Or.inr rfl) (pe_callH HF (hr.mono (by decide)) rfl (pa_cons (pv 0) (pa_cons (pv 1) pa_nil))))
      (pss_cons (ps_if (pt_not (pt_truth (pv 2) (fun _ => rfl))) (pss_one (ps_ret (pe_tup (pa_cons pe_str pa_nil)))) pss_nil)
      (pss_cons (ps_set (i := 3) scSpeaker.nd rfl (by first | exact Or.inl rfl | exact Or.inr rfl) (pe_callH HS (hr.mono (by decide)) rfl (pa_cons (pv 0) (pa_cons (pv 2) pa_nil))))
      (pss_cons (ps_if (pt_cmpR op_isN (pv 3) pe_non (nomark _)) (pss_one (ps_ret (pe_tup (pa_cons pe_str (pa_cons (pe_callH HQ (hr.mono (by decide)) rfl (pa_cons (pv 0) (pa_cons (pv 2) pa_nil))) pa_nil))))) pss_nil)
      (pss_one (ps_ret (pe_tup (pa_cons pe_str (pa_cons (pv 3) pa_nil))))))))), ?_⟩
    obtain ⟨p, wt, ys, hb, hp, ents, hw⟩ := bs.ex
    refine ⟨_, rfl, _, rfl, b, p, man, wt, v, ys, es, ms, rfl, hb, hp, ents, bs.ok, bs.len, mv, mok, fun q H1 hq s1 => ?_⟩
    refine ⟨_, rfl, _, .inr (.inl ⟨_, sqT hq, rfl⟩), ?_⟩
    by_cases hne : fitN es ms = []
    · rw [hne] at hq k
      rw [hne]
      refine iteT ⟨(by show 1 ≤ sizeLine; decide), fun t ht => ?_⟩
      exact k _ _ ⟨t, rfl, upd_same⟩ (s1.trans (Same.new ht))
    have ne1 : (!!((nat2 (fitN es ms)).map V.int).isEmpty) = false := by
      cases hx : fitN es ms with
      | nil => exact absurd hx hne
      | cons j r => rfl
    refine ite2 (fun hf => ?_) (fun _ => ?_)
    · have hf' : (!!((nat2 (fitN es ms)).map V.int).isEmpty) = true := hf
      rw [ne1] at hf'
      cases hf'
    have hl := fitN_len es ms
    have hl40 := bs.len
    refine ⟨_, rfl, _, rfl, b, q, man, ws, es, fitN es ms, rfl, bs.same s1, hman, hq, fit_lt, fit_nd es ms, by omega, fun H2 s2 => ?_⟩
    refine ⟨_, rfl, rfl, _, rfl, ?_⟩
    rcases lawRes_cases (beatA_ok man ws es) (fit_nd es ms) with ⟨e, r⟩ | ⟨n, hn, r⟩ | ⟨_, hn, r⟩
    · exact absurd e hne
    · rw [r] at k
      rw [r]
      refine iteF ⟨_, rfl, (by show 2 ≤ sizeLine; decide), fun t ht => ?_⟩
      exact k _ _ ⟨t, rfl, upd_same⟩ ((s1.trans s2).trans (Same.new ht))
    · rw [r] at k
      rw [r]
      refine iteT ⟨_, rfl, _, rfl, b, q, man, ws, es, fitN es ms, rfl, bs.same (s1.trans s2), s2 _ _ hq, fit_lt, hne, by omega, fun t H3 ht s3 => ⟨(by show 2 ≤ sizeLine; decide), fun t2 ht2 => ?_⟩⟩
      have q4 : Same H3 (upd H3 t2 (.tup [.str "quarrel", .ref t])) := Same.new ht2
      exact k _ _ ⟨t, ⟨t2, rfl, upd_same⟩, q4 _ _ ht⟩ (((s1.trans s2).trans s3).trans q4)
end
end Xci

namespace Xci
open PySem L2

section
variable {P : Program} {w : World} {K : PySem.W.Frag} {mg : Str → Option Value} {base : Heap}
abbrev sLawProper : Stmt := top 37
theorem scLawProper : FnScope ["one", "other"] ["one", "other"] (defScope sLawProper) := ⟨rfl, rfl, rfl, by decide +kernel, rfl, by decide +kernel, by decide +kernel⟩

theorem ok_proper {f : Addr} {fd : FuncData} (F : Fun K "_law_proper" "_law_proper" sLawProper f fd) (T : Txt mg) (HI : Has P w K mg base "_law_in" ["one", "other"] 1 spIn) : FnOk P w K mg base CX0 2 f fd ["one", "other"] spProper := by
  refine F.ok scLawProper (fun vs H Q E h => ?_) (fun cdv A outer s H vs Q E hr h => ?_)
  · obtain ⟨u, v, ms, ns, rfl, _⟩ := h
    rfl
  · obtain ⟨u, v, ms, ns, rfl, mu, mv, hl, k⟩ := h
    refine ⟨_, (pss_one (ps_ret (pe_and (pe_callH HI (hr.mono (by decide)) rfl (pa_cons (pv 0) (pa_cons (pv 1) pa_nil))) (pe_one (pe_cmpR op_lt (pe_callB call_len rfl T.len PySem.boot_len (pa_cons (pv 0) pa_nil)) (pe_callB call_len rfl T.len PySem.boot_len (pa_cons (pv 1) pa_nil)) (nomark _)))))), ?_⟩
    refine ⟨_, rfl, _, rfl, u, v, ms, ns, rfl, mu, mv, hl, fun H1 s1 => ⟨_, rfl, ?_⟩⟩
    obtain ⟨p, rfl, hp⟩ := mu
    obtain ⟨q, rfl, hq⟩ := mv
    have k' := k H1 s1
    refine ite2 (fun hin => ?_) (fun hin => ?_)
    · have hin' : inside ms ns = true := hin
      refine ⟨_, rfl, _, _, rfl, .inr ⟨_, sqT (s1 _ _ hp), rfl⟩, _, rfl, _, _, rfl, .inr ⟨_, sqT (s1 _ _ hq), rfl⟩, _, _, rfl, rfl, ?_⟩
      have e : decide ((((ms.map V.int).length : Nat) : Int) < (((ns.map V.int).length : Nat) : Int)) = (inside ms ns && decide (ms.length < ns.length)) := by
        rw [hin', Bool.true_and, List.length_map, List.length_map, Bool.eq_iff_iff, decide_eq_true_iff, decide_eq_true_iff]
        omega
      rw [← e] at k'
      exact k'
    · have hin' : inside ms ns = false := by
        cases h : inside ms ns with
        | false => rfl
        | true => exact absurd h hin
      rw [hin', Bool.false_and] at k'
      exact k'
abbrev sLawSum : Stmt := top 41
theorem scLawSum : FnScope ["weights", "marks", "mark"] ["weights", "marks"] (defScope sLawSum) := ⟨rfl, rfl, rfl, by decide +kernel, rfl, by decide +kernel, by decide +kernel⟩

theorem ok_sum {f : Addr} {fd : FuncData} (F : Fun K "_law_sum" "_law_sum" sLawSum f fd) (T : Txt mg) : FnOk P w K mg base CX0 1 f fd ["weights", "marks"] spSum := by
  refine F.ok scLawSum (fun vs H Q E h => ?_) (fun cdv A outer s H vs Q E hr h => ?_)
  · obtain ⟨wt, u, ws, ms, rfl, _⟩ := h
    rfl
  · obtain ⟨wt, u, ws, ms, rfl, ⟨wp, rfl, hwp⟩, hwl, ⟨q, rfl, hq⟩, mok, k⟩ := h
    refine ⟨_, (pss_one (ps_ret (pe_callB (cr_sum rfl) rfl T.sum (by decide +kernel) (pa_cons (pe_lc (own := [("mark", 2)]) rfl scLawSum.nd (pi_tup (pv 1)) (blkOk_by (N := ["weights", "marks", "mark"]) (sc := defScope sLawSum) (by decide +kernel)) (fun _ _ _ _ _ => (pg_name (i := 2) scLawSum.nd rfl (by first | exact Or.inl rfl | exact Or.inr rfl))) (fun _ _ _ _ _ => pts_nil) (fun _ _ _ _ _ => (pe_ix (show IxR _ (rIxT K) from ix_tup) (pv 0) (pv 2) (fun _ _ => rfl)))) pa_nil)))), ?_⟩
    have ml := mok.len
    refine ⟨_, rfl, q, rfl, ⟨_, sqT hq⟩, fun D hD => ?_⟩
    refine lc_tup (K := K) (a := q) (xs := ms.map V.int) (fun i H4 => Same H H4 ∧ H4 D = some (.lst (((ms.take i).map fun m => ws.getD m.toNat 0).map V.int))) ⟨Same.new hD, upd_same⟩ (fun i H4 _ ⟨s4, _⟩ => sqT (s4 _ _ hq)) ?_ ?_
    · rintro i y H4 hi ⟨sm, e4⟩
      obtain ⟨m, hm, rfl⟩ := int_of hi
      have mem := List.mem_of_getElem? hm
      have h0 := mok.lo m mem
      have h1 := mok.hi m mem
      refine ⟨rfl, _, rfl, _, rfl, wp, _, _, _, rfl, rfl, sqT (sm _ _ hwp), at_of (j := m.toNat) (by omega) (ws_at hwl h0 h1), ?_⟩
      refine ⟨_, e4, by rw [List.length_map, List.length_map, List.length_take]; exact small1000 (by omega), fun b o h => by rw [upd_ne (ne_of_none h hD)]; exact sm b o h, ?_⟩
      rw [upd_same, take_map hm, List.map_append]
      rfl
    · rintro H4 ⟨sm, e4⟩
      rw [List.length_map, List.take_length] at e4
      exact ⟨D, _, rfl, SqL.of e4, k H4 sm⟩
abbrev sLawBeats : Stmt := top 43
theorem scLawBeats : FnScope ["manner", "weights", "one", "other"] ["manner", "weights", "one", "other"] (defScope sLawBeats) := ⟨rfl, rfl, rfl, by decide +kernel, rfl, by decide +kernel, by decide +kernel⟩

theorem ok_beats {f : Addr} {fd : FuncData} (F : Fun K "_law_beats" "_law_beats" sLawBeats f fd) (T : Txt mg) (HP : Has P w K mg base "_law_proper" ["one", "other"] 2 spProper) (HS : Has P w K mg base "_law_sum" ["weights", "marks"] 1 spSum) :
    FnOk P w K mg base CX0 3 f fd ["manner", "weights", "one", "other"] spBeats := by
  refine F.ok scLawBeats (fun vs H Q E h => ?_) (fun cdv A outer s H vs Q E hr h => ?_)
  · obtain ⟨man, wt, u, v, ws, ms, ns, rfl, _⟩ := h
    rfl
  · obtain ⟨man, wt, u, v, ws, ms, ns, rfl, hman, hw, mu, mv, mok, nok, k⟩ := h
    refine ⟨_, (pss_cons (ps_if (pt_cmpR op_eq (pv 0) pe_str (nomark _)) (pss_one (ps_ret (pe_callH HP (hr.mono (by decide)) rfl (pa_cons (pv 3) (pa_cons (pv 2) pa_nil))))) pss_nil)
      (pss_cons (ps_if (pt_cmpR op_eq (pv 0) pe_str (nomark _)) (pss_one (ps_ret (pe_cmpR op_gt (pe_callB call_len rfl T.len PySem.boot_len (pa_cons (pv 2) pa_nil)) (pe_callB call_len rfl T.len PySem.boot_len (pa_cons (pv 3) pa_nil)) (nomark _)))) pss_nil)
      (pss_one (ps_ret (pe_cmpR op_gt (pe_callH HS (hr.mono (by decide)) rfl (pa_cons (pv 1) (pa_cons (pv 2) pa_nil))) (pe_callH HS (hr.mono (by decide)) rfl (pa_cons (pv 1) (pa_cons (pv 3) pa_nil))) (nomark _)))))), ?_⟩
    have ml := mok.len
    have nl := nok.len
    refine ⟨_, rfl, rfl, _, rfl, ?_⟩
    rcases hman with rfl | rfl | rfl
    · refine ite2 (fun _ => ?_) (fun hf => absurd (decide_eq_true rfl) hf)
      refine ⟨_, rfl, _, rfl, v, u, ns, ms, rfl, mv, mu, by omega, fun H1 s1 => ?_⟩
      have e : beatM "within" ws ms ns = (inside ns ms && decide (ns.length < ms.length)) := if_pos rfl
      rw [← e]
      exact k H1 s1
    · refine ite2 (fun hf => absurd (V.str.inj (of_decide_eq_true hf)) n_wi) (fun _ => ?_)
      refine ⟨_, rfl, rfl, _, rfl, ?_⟩
      refine ite2 (fun hf => absurd (V.str.inj (of_decide_eq_true hf)) (fun q => n_mostw q.symm)) (fun _ => ?_)
      rcases hw with ⟨hn, _⟩ | ⟨_, mw, hwl, hwb⟩
      · exact absurd rfl hn
      refine ⟨_, rfl, _, rfl, wt, u, ws, ms, rfl, mw, hwl, mu, mok, fun H1 s1 => ?_⟩
      refine ⟨_, rfl, _, rfl, wt, v, ws, ns, rfl, Tup.keep (TFr.same s1) mw, hwl, Tup.keep (TFr.same s1) mv, nok, fun H2 s2 => ?_⟩
      refine ⟨_, _, rfl, rfl, ?_⟩
      have e : beatM "weights" ws ms ns = decide ((ns.map fun m => ws.getD m.toNat 0).sum < (ms.map fun m => ws.getD m.toNat 0).sum) := by
        unfold beatM rk
        rw [if_neg n_wi, if_pos rfl, if_pos rfl]
      have k' := k H2 (s1.trans s2)
      rw [e] at k'
      exact k'
    · refine ite2 (fun hf => absurd (V.str.inj (of_decide_eq_true hf)) n_mosti) (fun _ => ?_)
      refine ⟨_, rfl, rfl, _, rfl, ?_⟩
      refine ite2 (fun _ => ?_) (fun hf => absurd (decide_eq_true rfl) hf)
      obtain ⟨p, rfl, hp⟩ := mu
      obtain ⟨q, rfl, hq⟩ := mv
      refine ⟨_, rfl, _, _, rfl, .inr ⟨_, sqT hp, rfl⟩, _, rfl, _, _, rfl, .inr ⟨_, sqT hq, rfl⟩, _, _, rfl, rfl, ?_⟩
      have e : beatM "most" ws ms ns = decide ((((ns.map V.int).length : Nat) : Int) < (((ms.map V.int).length : Nat) : Int)) := by
        unfold beatM rk
        rw [if_neg n_mosti, if_neg n_mostw, if_neg n_mostw, List.length_map, List.length_map]
      have k' := k H (Same.refl H)
      rw [e] at k'
      exact k'
abbrev sLawSpeaks : Stmt := top 44
theorem scLawSpeaks : FnScope ["manner", "entries", "weights", "cell", "fits", "number", "beaten", "other", "found"] ["manner", "entries", "weights", "cell"] (defScope sLawSpeaks) := ⟨rfl, rfl, rfl, by decide +kernel, rfl, by decide +kernel, by decide +kernel⟩

theorem find_at {α : Type} {p : α → Bool} : ∀ {l : List α} {i : Nat} {x : α}, (∀ y ∈ l.take i, p y = false) → l[i]? = some x → p x = true → l.find? p = some x
  | [], i, x, _, h, _ => by simp at h
  | y :: r, 0, x, _, h, hp => by
    have e : y = x := Option.some.inj h
    subst e
    rw [List.find?_cons, hp]
  | y :: r, i + 1, x, hf, h, hp => by
    have hy := hf y (by simp)
    rw [List.find?_cons, hy]
    exact find_at (i := i) (fun z hz => hf z (List.mem_cons_of_mem _ hz)) h hp
theorem ok_speaks {f : Addr} {fd : FuncData} (F : Fun K "_law_speaks" "_law_speaks" sLawSpeaks f fd) (T : Txt mg) (HF : Has P w K mg base "_law_fits" ["entries", "cell"] 2 (spFits K)) (HB : Has P w K mg base "_law_beats" ["manner", "weights", "one", "other"] 3 spBeats) :
    FnOk P w K mg base CX0 4 f fd ["manner", "entries", "weights", "cell"] (spSpeaks K) := by
  refine F.ok scLawSpeaks (fun vs H Q E h => ?_) (fun cdv A outer s H vs Q E hr h => ?_)
  · obtain ⟨man, p, wt, v, ys, ws, es, ms, rfl, _⟩ := h
    rfl
  · obtain ⟨man, p, wt, v, ys, ws, es, ms, rfl, hman, hw, hp, ents, eok, el, mv, k⟩ := h
    refine ⟨_, (pss_cons (ps_set (i := 4) scLawSpeaks.nd rfl (by first | exact Or.inl rfl | exact Or.inr rfl) (pe_callH HF (hr.mono (by decide)) rfl (pa_cons (pv 1) (pa_cons (pv 3) pa_nil))))
      (pss_cons (ps_if (pt_cmpR op_eq (pe_callB call_len rfl T.len PySem.boot_len (pa_cons (pv 4) pa_nil)) pe_int (nomark _)) (pss_one (ps_ret (pe_tup (pa_cons pe_str pa_nil)))) pss_nil)
      (pss_cons (ps_if (pt_cmpR op_eq (pv 0) pe_str (nomark _)) (pss_one ps_never) pss_nil)
      (pss_cons (ps_for PassesOwn.never rfl (pi_list (pv 4)) (pg_name (i := 5) scLawSpeaks.nd rfl (by first | exact Or.inl rfl | exact Or.inr rfl)) (pss_cons (ps_setLc (i := 6) (own := [("other", 7)]) rfl scLawSpeaks.nd rfl rfl (sw_true rfl rfl rfl (by decide +kernel)) (pi_list (pv 4)) (blkOk_by (N := ["manner", "entries", "weights", "cell", "fits", "number", "beaten", "other", "found"]) (sc := defScope sLawSpeaks) (by decide +kernel)) (fun _ _ _ _ _ => (pg_name (i := 7) scLawSpeaks.nd rfl (by first | exact Or.inl rfl | exact Or.inr rfl))) (fun _ _ _ _ _ => pts_one (pt_val (pe_callH HB (hr.mono (by decide)) rfl (pa_cons (pv 0) (pa_cons (pv 2) (pa_cons (pe_ix (show IxR _ (rIxT K) from ix_tup) (pe_ix (show IxR _ (rIxT K) from ix_tup) (pv 1) (pv 5) (fun _ _ => rfl)) pe_int (fun _ _ => rfl)) (pa_cons (pe_ix (show IxR _ (rIxT K) from ix_tup) (pe_ix (show IxR _ (rIxT K) from ix_tup) (pv 1) (pv 7) (fun _ _ => rfl)) pe_int (fun _ _ => rfl)) pa_nil))))))) (fun _ _ _ _ _ => (pv 7)))
      (pss_one (ps_if (pt_cmpR op_eq (pe_callB call_len rfl T.len PySem.boot_len (pa_cons (pv 6) pa_nil)) (pe_op op_sub (pe_callB call_len rfl T.len PySem.boot_len (pa_cons (pv 4) pa_nil)) pe_int) (nomark _)) (pss_one (ps_ret (pe_tup (pa_cons pe_str (pa_cons (pv 5) pa_nil))))) pss_nil))))
      (pss_cons (ps_set (i := 8) scLawSpeaks.nd rfl (by first | exact Or.inl rfl | exact Or.inr rfl) (pe_lst pa_nil))
      (pss_cons (ps_for PassesOwn.never rfl (pi_list (pv 4)) (pg_name (i := 5) scLawSpeaks.nd rfl (by first | exact Or.inl rfl | exact Or.inr rfl)) (pss_one (ps_if (pt_not (pt_val (pe_callB (cr_any rfl) rfl T.any (by decide +kernel) (pa_cons (pe_lc (own := [("other", 7)]) rfl scLawSpeaks.nd (pi_list (pv 4)) (blkOk_by (N := ["manner", "entries", "weights", "cell", "fits", "number", "beaten", "other", "found"]) (sc := defScope sLawSpeaks) (by decide +kernel)) (fun _ _ _ _ _ => (pg_name (i := 7) scLawSpeaks.nd rfl (by first | exact Or.inl rfl | exact Or.inr rfl))) (fun _ _ _ _ _ => pts_nil) (fun _ _ _ _ _ => (pe_callH HB (hr.mono (by decide)) rfl (pa_cons (pv 0) (pa_cons (pv 2) (pa_cons (pe_ix (show IxR _ (rIxT K) from ix_tup) (pe_ix (show IxR _ (rIxT K) from ix_tup) (pv 1) (pv 7) (fun _ _ => rfl)) pe_int (fun _ _ => rfl)) (pa_cons (pe_ix (show IxR _ (rIxT K) from ix_tup) (pe_ix (show IxR _ (rIxT K) from ix_tup) (pv 1) (pv 5) (fun _ _ => rfl)) pe_int (fun _ _ => rfl)) pa_nil))))))) pa_nil)))) (pss_one (ps_expr (pe_bm PySem.F.plainAttrs_list PySem.F.slot_list_append PySem.F.type_list_append mt_append (pv 8) (pa_cons (pv 5) pa_nil)))) pss_nil)))
      (pss_one (ps_ret (pe_tup (pa_cons pe_str (pa_cons (pe_callTy call_tuple_of rfl T.tuple (by decide +kernel) (pa_cons (pv 8) pa_nil)) pa_nil))))))))))), ?_⟩
    refine ⟨_, rfl, _, rfl, p, v, ys, es, ms, rfl, hp, ents, eok, el, mv, fun q H1 hq s1 => ?_⟩
    refine ⟨_, rfl, _, _, rfl, .inl ⟨_, SqL.of hq, rfl⟩, rfl, _, rfl, ?_⟩
    by_cases hne : fitN es ms = []
    · rw [hne] at hq k
      rw [hne]
      refine iteT ⟨(by show 1 ≤ sizeLine; decide), fun t ht => ?_⟩
      exact k _ _ ⟨t, rfl, upd_same⟩ (s1.trans (Same.new ht))
    have hjl := fitN_len es ms
    have hlt := fit_lt (es := es) (ms := ms)
    have unf : lawRes (fitN es ms) (beatA man ws es) = match (fitN es ms).find? (winC (fitN es ms) (beatA man ws es)) with
        | some n => .ent n
        | none => .qua ((fitN es ms).filter (maxB (fitN es ms) (beatA man ws es))) := if_neg hne
    rw [unf] at k
    clear unf
    generalize hjs : fitN es ms = js at *
    clear hjs
    have hjs0 : 0 < js.length := List.length_pos_iff.mpr hne
    refine ite2 (fun hf => ?_) (fun _ => ?_)
    · have := V.int.inj (of_decide_eq_true hf)
      rw [List.length_map, nat2_len] at this
      omega
    refine ⟨_, rfl, rfl, _, rfl, ?_⟩
    refine ite2 (fun hf => absurd (V.str.inj (of_decide_eq_true hf)) (man3_row hman)) (fun _ => ?_)
    have two : ∀ {H4 : Hp}, Same H1 H4 → ∀ j o, j ∈ js → o ∈ js → ∃ (r1 r2 : Addr) (u1 u2 : V) (e1 e2 : Ent), ys[j]? = some (.ref r1) ∧ ys[o]? = some (.ref r2) ∧ H4 r1 = some (.tup [u1, .str e1.2]) ∧ H4 r2 = some (.tup [u2, .str e2.2]) ∧ Xci.Mk H4 u1 e1.1 ∧ Xci.Mk H4 u2 e2.1 ∧ MarksOk 6 e1.1 ∧ MarksOk 6 e2.1 ∧ beatA man ws es j o = beatM man ws e1.1 e2.1 := by
      intro H4 s4 j o hj ho
      have s14 := s1.trans s4
      obtain ⟨r1, u1, e1, a1, b1, c1, d1⟩ := ent_at ents (hlt j hj)
      obtain ⟨r2, u2, e2, a2, b2, c2, d2⟩ := ent_at ents (hlt o ho)
      exact ⟨r1, r2, u1, u2, e1, e2, a1, a2, s14 _ _ b1, s14 _ _ b2, Tup.keep (TFr.same s14) c1, Tup.keep (TFr.same s14) c2, mk_ent eok d1, mk_ent eok d2, by unfold beatA; rw [mkA_at d1, mkA_at d2]⟩
    refine ⟨_, rfl, q, rfl, ⟨_, SqL.of hq⟩, for_list (K := K) (a := q) (xs := (nat2 js).map V.int) (fun i σ H4 => Same H1 H4 ∧ (∀ j ∈ js.take i, winC js (beatA man ws es) j = false) ∧ ∃ v5 v6 : Option V, σ = [some (.str man), some (.ref p), some wt, some v, some (.ref q), v5, v6, none, none])
      ⟨Same.refl _, by simp, none, none, rfl⟩ (fun i σ H4 _ ⟨s4, _⟩ => SqL.of (s4 _ _ hq)) ?_ ?_⟩
    · rintro i y σ H4 hi ⟨s4, hno, v5, v6, rfl⟩
      obtain ⟨j, hj, rfl⟩ := num_of hi
      have hjm := List.mem_of_getElem? hj
      refine ⟨_, rfl, q, rfl, ⟨_, SqL.of (s4 _ _ hq)⟩, fun D hD => ?_⟩
      refine lc_list (K := K) (a := q) (xs := (nat2 js).map V.int) (fun n H5 => Same H4 H5 ∧ H5 D = some (.lst ((nat2 ((js.take n).filter (beatA man ws es j))).map V.int))) ⟨Same.new hD, upd_same⟩ (fun n H5 _ ⟨s5, _⟩ => SqL.of (s5 _ _ (s4 _ _ hq))) ?_ ?_
      · rintro n y H5 hn ⟨s5, e5⟩
        obtain ⟨o, ho, rfl⟩ := num_of hn
        have s15 := s4.trans s5
        obtain ⟨r1, r2, u1, u2, e1, e2, a1, a2, b1, b2, c1, c2, d1, d2, be⟩ := two s15 j o hjm (List.mem_of_getElem? ho)
        have hp5 := s15 _ _ (s1 _ _ hp)
        refine ⟨rfl, _, rfl, _, rfl, _, rfl, _, rfl, p, _, _, _, rfl, rfl, sqT hp5, at_of (j := j) rfl a1, r1, _, _, _, rfl, rfl, sqT b1, at_of (j := 0) rfl rfl, _, rfl, _, rfl, p, _, _, _, rfl, rfl, sqT hp5, at_of (j := o) rfl a2, r2, _, _, _, rfl, rfl, sqT b2, at_of (j := 0) rfl rfl,
          man, wt, u1, u2, ws, e1.1, e2.1, rfl, hman, hw.keep (TFr.same (s1.trans s15)), c1, c2, d1, d2, fun H6 s6 => ⟨_, rfl, ?_⟩⟩
        have e6 := s6 _ _ e5
        rw [← be]
        have nlt := (List.getElem?_eq_some_iff.mp ho).1
        refine ite2 (fun hb => ?_) (fun hb => ?_)
        · refine ⟨_, rfl, _, e6, ?_, fun b o h => by rw [upd_ne (ne_of_none h hD)]; exact s6 _ _ (s5 b o h), ?_⟩
          · rw [List.length_map, nat2_len]
            exact small1000 (Nat.le_trans (List.length_filter_le _ _) (by rw [List.length_take]; omega))
          · rw [upd_same, filt_snoc ho, if_pos hb, nat2_app, List.map_append]
            rfl
        · refine ⟨s5.trans s6, ?_⟩
          rw [e6, filt_snoc ho, if_neg hb, List.append_nil]
      · rintro H5 ⟨s5, e5⟩
        rw [List.length_map, nat2_len, List.take_length] at e5
        have s15 := s4.trans s5
        refine ⟨_, rfl, _, _, rfl, .inl ⟨_, SqL.of e5, rfl⟩, _, rfl, _, _, rfl, .inl ⟨_, SqL.of (s15 _ _ hq), rfl⟩, _, _, rfl, rfl, rfl, _, rfl, ?_⟩
        have cond : decide (V.int ((((nat2 (js.filter (beatA man ws es j))).map V.int).length : Nat) : Int) = V.int (((((nat2 js).map V.int).length : Nat) : Int) - 1)) = winC js (beatA man ws es) j := by
          unfold winC
          rw [Bool.eq_iff_iff, decide_eq_true_iff, decide_eq_true_iff, List.length_map, List.length_map, nat2_len, nat2_len]
          constructor
          · intro h
            have := V.int.inj h
            omega
          · intro h
            congr 1
            omega
        refine ite2 (fun hf => ?_) (fun hf => ?_)
        · have hf' := cond.symm.trans hf
          have fd := find_at hno hj hf'
          rw [fd] at k
          refine ⟨_, rfl, (by show 2 ≤ sizeLine; decide), fun t ht => ?_⟩
          exact k _ _ ⟨t, rfl, upd_same⟩ ((s1.trans s15).trans (Same.new ht))
        · have hf' : winC js (beatA man ws es) j = false := by
            cases h : winC js (beatA man ws es) j with
            | false => rfl
            | true => exact absurd (cond.trans h) hf
          refine ⟨s15, fun m hm => ?_, _, _, rfl⟩
          rw [List.take_add_one, hj] at hm
          rcases List.mem_append.mp hm with h | h
          · exact hno m h
          · rw [List.mem_singleton.mp h]; exact hf'
    · rintro σ H4 ⟨s4, hno, v5, v6, rfl⟩
      rw [List.length_map, nat2_len, List.take_length] at hno
      have fd : js.find? (winC js (beatA man ws es)) = none := List.find?_eq_none.mpr fun x hx => by rw [hno x hx]; exact Bool.false_ne_true
      rw [fd] at k
      refine ⟨Nat.zero_le _, fun L hL => ?_⟩
      have s5 : Same H4 (upd H4 L (.lst [])) := Same.new hL
      have e5 : (upd H4 L (.lst [])) L = some (.lst []) := upd_same
      have hL1 : H1 L = Option.none := s4.free hL
      generalize upd H4 L (.lst []) = H5 at *
      have f15 : ∀ b o, H1 b = some o → b ≠ L → H5 b = some o := fun b o h _ => s5 _ _ (s4 _ _ h)
      refine ⟨_, rfl, q, rfl, ⟨_, SqL.of (s5 _ _ (s4 _ _ hq))⟩, for_list (K := K) (a := q) (xs := (nat2 js).map V.int) (fun i σ H6 => Same H1 H6 ∧ H6 L = some (.lst ((nat2 ((js.take i).filter (maxB js (beatA man ws es)))).map V.int)) ∧ ∃ v5 v6 : Option V, σ = [some (.str man), some (.ref p), some wt, some v, some (.ref q), v5, v6, none, some (.ref L)])
        ⟨s4.trans s5, e5, _, _, rfl⟩ (fun i σ H6 _ ⟨s6, _⟩ => SqL.of (s6 _ _ hq)) ?_ ?_⟩
      · rintro i y σ H6 hi ⟨s6, e6, v5, v6, rfl⟩
        obtain ⟨j, hj, rfl⟩ := num_of hi
        have hjm := List.mem_of_getElem? hj
        have hlt1 := (List.getElem?_eq_some_iff.mp hj).1
        refine ⟨_, rfl, q, rfl, ⟨_, SqL.of (s6 _ _ hq)⟩, fun D hD => ?_⟩
        refine lc_list (K := K) (a := q) (xs := (nat2 js).map V.int) (fun n H7 => Same H6 H7 ∧ H7 D = some (.lst (((js.take n).map fun o => beatA man ws es o j).map V.bl))) ⟨Same.new hD, upd_same⟩ (fun n H7 _ ⟨s7, _⟩ => SqL.of (s7 _ _ (s6 _ _ hq))) ?_ ?_
        · rintro n y H7 hn ⟨s7, e7⟩
          obtain ⟨o, ho, rfl⟩ := num_of hn
          have s17 := s6.trans s7
          obtain ⟨r1, r2, u1, u2, e1, e2, a1, a2, b1, b2, c1, c2, d1, d2, be⟩ := two s17 o j (List.mem_of_getElem? ho) hjm
          have hp7 := s17 _ _ (s1 _ _ hp)
          refine ⟨rfl, _, rfl, _, rfl, _, rfl, _, rfl, p, _, _, _, rfl, rfl, sqT hp7, at_of (j := o) rfl a1, r1, _, _, _, rfl, rfl, sqT b1, at_of (j := 0) rfl rfl, _, rfl, _, rfl, p, _, _, _, rfl, rfl, sqT hp7, at_of (j := j) rfl a2, r2, _, _, _, rfl, rfl, sqT b2, at_of (j := 0) rfl rfl,
            man, wt, u1, u2, ws, e1.1, e2.1, rfl, hman, hw.keep (TFr.same (s1.trans s17)), c1, c2, d1, d2, fun H8 s8 => ?_⟩
          have nlt := (List.getElem?_eq_some_iff.mp ho).1
          refine ⟨_, s8 _ _ e7, by rw [List.length_map, List.length_map, List.length_take]; exact small1000 (by omega), fun b o h => by rw [upd_ne (ne_of_none h hD)]; exact s8 _ _ (s7 b o h), ?_⟩
          rw [upd_same, take_map ho, List.map_append, ← be]
          rfl
        · rintro H7 ⟨s7, e7⟩
          rw [List.length_map, nat2_len, List.take_length] at e7
          refine ⟨D, _, rfl, SqL.of e7, _, rfl, ?_⟩
          have cond : (!((js.map fun o => beatA man ws es o j).any id)) = maxB js (beatA man ws es) j := by
            unfold maxB
            rw [List.any_map]
            rfl
          have eL := s7 _ _ e6
          refine ite2 (fun hb => ?_) (fun hb => ?_)
          · have hb := cond.symm.trans hb
            refine ⟨_, rfl, .inl ⟨rfl, _, SqL.of eL⟩, _, rfl, L, _, _, rfl, rfl, eL, ?_, ?_⟩
            · rw [List.length_map, nat2_len]
              exact small1000 (Nat.le_trans (List.length_filter_le _ _) (by rw [List.length_take]; omega))
            · refine ⟨fun b o h => by rw [upd_ne (ne_of_none h hL1)]; exact s7 _ _ (s6 b o h), ?_, _, _, rfl⟩
              rw [upd_same, filt_snoc hj, if_pos hb, nat2_app, List.map_append]
              rfl
          · have hb : ¬ maxB js (beatA man ws es) j = true := fun e => hb (cond.trans e)
            refine ⟨s6.trans s7, ?_, _, _, rfl⟩
            rw [eL, filt_snoc hj, if_neg hb, List.append_nil]
      · rintro σ H6 ⟨s6, e6, v5, v6, rfl⟩
        rw [List.length_map, nat2_len, List.take_length] at e6
        refine ⟨_, rfl, L, _, rfl, .inl ⟨SqL.of e6, fun t ht => ⟨(by show 2 ≤ sizeLine; decide), fun t2 ht2 => ?_⟩⟩⟩
        have q1 : Same H6 (upd H6 t (.tup ((nat2 (js.filter (maxB js (beatA man ws es)))).map V.int))) := Same.new ht
        have q2 : Same (upd H6 t (.tup ((nat2 (js.filter (maxB js (beatA man ws es)))).map V.int))) _ := Same.new (o := .tup [.str "quarrel", .ref t]) ht2
        exact k _ _ ⟨t, ⟨t2, rfl, upd_same⟩, q2 _ _ upd_same⟩ ((s1.trans s6).trans (q1.trans q2))

/-- alike: two flat ones, or two tuples of flat ones -/
def spLike01 : Sp := fun vs H Q E => spLike0 vs H Q E ∨ spLike1 vs H Q E
def spLike2 : Sp := fun vs H Q _ => ∃ (u v : V) (r : Res), vs = [u, v] ∧ ResAt H u r ∧ ResAt H v r ∧ (∀ l, r = .qua l → l.length ≤ 1000) ∧ ∀ H', Same H H' → Q (.bl true) H'
theorem ok_like01 {f : Addr} {fd : FuncData} (G0 : FnOk P w K mg base CX0 1 f fd ["told", "due"] spLike0) (G1 : FnOk P w K mg base CX0 2 f fd ["told", "due"] spLike1) : FnOk P w K mg base CX0 2 f fd ["told", "due"] spLike01 :=
  ⟨fun vs H Q E h => h.elim (G0.len vs H Q E) (G1.len vs H Q E), fun A outer s H args us vs Q E hr he hb hv hs => hs.elim (fun h => (G0.mono (by decide)).run A outer s H args us vs Q E hr he hb hv h) (fun h => G1.run A outer s H args us vs Q E hr he hb hv h)⟩
theorem ok_like2 {f : Addr} {fd : FuncData} (F : Fun K "_law_like" "_law_like" sLawLike f fd) (T : Txt mg) (HL : Has P w K mg base "_law_like" ["told", "due"] 2 spLike01) : FnOk P w K mg base CX0 3 f fd ["told", "due"] spLike2 := by
  refine F.ok scLawLike (fun vs H Q E h => ?_) (fun cdv A outer s H vs Q E hr h => ?_)
  · obtain ⟨u, v, r, rfl, _⟩ := h
    rfl
  · obtain ⟨u, v, r, rfl, ru, rv, hql, k⟩ := h
    refine ⟨_, (pss_cons (ps_if (pt_val (pe_callB call_isiT rfl T.isinstance (by decide +kernel) (pa_cons (pv 1) (pa_cons (pe_tup (pa_cons (pe_bltn rfl T.tuple (by decide +kernel) (v := V.ty "tuple") rfl) (pa_cons (pe_bltn rfl T.list (by decide +kernel) (v := V.ty "list") rfl) pa_nil))) pa_nil)))) (pss_cons (ps_if (PW.pt (pw_or (pt_cmpR op_ne (pe_callB call_isi rfl T.isinstance (by decide +kernel) (pa_cons (pv 0) (pa_cons (pe_bltn rfl T.tuple (by decide +kernel) (v := V.ty "tuple") rfl) pa_nil))) (pe_callB call_isi rfl T.isinstance (by decide +kernel) (pa_cons (pv 1) (pa_cons (pe_bltn rfl T.tuple (by decide +kernel) (v := V.ty "tuple") rfl) pa_nil))) (nomark _)) (pw_or1 (pt_cmpR op_ne (pe_callB call_isi rfl T.isinstance (by decide +kernel) (pa_cons (pv 0) (pa_cons (pe_bltn rfl T.list (by decide +kernel) (v := V.ty "list") rfl) pa_nil))) (pe_callB call_isi rfl T.isinstance (by decide +kernel) (pa_cons (pv 1) (pa_cons (pe_bltn rfl T.list (by decide +kernel) (v := V.ty "list") rfl) pa_nil))) (nomark _))))) (pss_one (ps_ret pe_bl)) pss_nil)
      (pss_one (ps_ret (pe_and (pe_cmpR op_eq (pe_callB call_len rfl T.len PySem.boot_len (pa_cons (pv 0) pa_nil)) (pe_callB call_len rfl T.len PySem.boot_len (pa_cons (pv 1) pa_nil)) (nomark _)) (pe_one (pe_callB (cr_all rfl) rfl T.all (by decide +kernel) (pa_cons (pe_lc (own := [("at", 2)]) rfl scLawLike.nd (pi_range1 rfl T.range (pa_cons (pe_callB call_len rfl T.len PySem.boot_len (pa_cons (pv 1) pa_nil)) pa_nil)) (blkOk_by (N := ["told", "due", "at"]) (sc := defScope sLawLike) (by decide +kernel)) (fun _ _ _ _ _ => (pg_name (i := 2) scLawLike.nd rfl (by first | exact Or.inl rfl | exact Or.inr rfl))) (fun _ _ _ _ _ => pts_nil) (fun _ _ _ _ _ => (pe_callH HL (hr.mono (by decide)) rfl (pa_cons (pe_ix (show IxR _ (rIxT K) from ix_tup) (pv 0) (pv 2) (fun _ _ => rfl)) (pa_cons (pe_ix (show IxR _ (rIxT K) from ix_tup) (pv 1) (pv 2) (fun _ _ => rfl)) pa_nil))))) pa_nil))))))) pss_nil)
      pss_never), ?_⟩
    have split : ∃ (p q : Addr) (xs ys : List V), u = .ref p ∧ v = .ref q ∧ H p = some (.tup xs) ∧ H q = some (.tup ys) ∧ xs.length = ys.length ∧ xs.length ≤ 2 ∧ ∀ {H' : Hp}, Same H H' → ∀ (i : Nat) (x y : V), xs[i]? = some x → ys[i]? = some y → (x = y ∧ flat0 x = true) ∨ ∃ zs : List V, Tup H' x zs ∧ Tup H' y zs ∧ zs.all flat0 = true ∧ zs.length ≤ 1000 := by
      cases r with
      | none =>
        obtain ⟨p, rfl, hp⟩ := ru
        obtain ⟨q, rfl, hq⟩ := rv
        refine ⟨p, q, _, _, rfl, rfl, hp, hq, rfl, by decide, fun s i x y hx hy => .inl ?_⟩
        obtain rfl : x = y := Option.some.inj (hx.symm.trans hy)
        match i, hx with
        | 0, hx => obtain rfl : V.str "none" = x := Option.some.inj hx; exact ⟨rfl, rfl⟩
        | i + 1, hx => simp at hx
      | ent j =>
        obtain ⟨p, rfl, hp⟩ := ru
        obtain ⟨q, rfl, hq⟩ := rv
        refine ⟨p, q, _, _, rfl, rfl, hp, hq, rfl, Nat.le_refl 2, fun s i x y hx hy => .inl ?_⟩
        obtain rfl : x = y := Option.some.inj (hx.symm.trans hy)
        match i, hx with
        | 0, hx => obtain rfl : V.str "entry" = x := Option.some.inj hx; exact ⟨rfl, rfl⟩
        | 1, hx => obtain rfl : V.int (j : Int) = x := Option.some.inj hx; exact ⟨rfl, rfl⟩
        | i + 2, hx => simp at hx
      | qua l =>
        obtain ⟨t, ⟨p, rfl, hp⟩, ht⟩ := ru
        obtain ⟨t', ⟨q, rfl, hq⟩, ht'⟩ := rv
        refine ⟨p, q, _, _, rfl, rfl, hp, hq, rfl, Nat.le_refl 2, fun s i x y hx hy => ?_⟩
        match i, hx, hy with
        | 0, hx, hy =>
          obtain rfl : V.str "quarrel" = x := Option.some.inj hx
          obtain rfl : V.str "quarrel" = y := Option.some.inj hy
          exact .inl ⟨rfl, rfl⟩
        | 1, hx, hy =>
          obtain rfl : V.ref t = x := Option.some.inj hx
          obtain rfl : V.ref t' = y := Option.some.inj hy
          exact .inr ⟨_, ⟨t, rfl, s _ _ ht⟩, ⟨t', rfl, s _ _ ht'⟩, flat0_ints _, by rw [List.length_map, nat2_len]; exact hql l rfl⟩
        | i + 2, hx, _ => simp at hx
    obtain ⟨p, q, xs, ys, rfl, rfl, hp, hq, hxy, hx2, each⟩ := split
    refine ⟨_, rfl, (by show 2 ≤ sizeLine; decide), fun t ht => ?_⟩
    have et : (upd H t (.tup [.ty "tuple", .ty "list"])) t = some (.tup [.ty "tuple", .ty "list"]) := upd_same
    have s1 : Same H (upd H t (.tup [.ty "tuple", .ty "list"])) := Same.new ht
    generalize upd H t (.tup [.ty "tuple", .ty "list"]) = H1 at *
    have hp1 := s1 _ _ hp
    have hq1 := s1 _ _ hq
    refine ⟨_, t, _, _, [.type "tuple", .type "list"], true, rfl, et, .cons (.ty _) (.cons (.ty _) .nil), .base (.tup hq1), isi_tup, _, rfl, ?_⟩
    refine iteT ?_
    refine ⟨_, rfl, _, _, _, _, true, rfl, .ty _, .base (.tup hp1), kit_ty (by decide +kernel), _, rfl, _, _, _, _, true, rfl, .ty _, .base (.tup hq1), kit_ty (by decide +kernel), rfl, _, rfl, ?_⟩
    refine iteF ?_
    refine ⟨_, rfl, _, _, _, _, false, rfl, .ty _, .base (.tup hp1), kit_ty (by decide +kernel), _, rfl, _, _, _, _, false, rfl, .ty _, .base (.tup hq1), kit_ty (by decide +kernel), rfl, _, rfl, ?_⟩
    refine iteF ?_
    refine ⟨_, rfl, _, xs.length, rfl, .inr ⟨_, sqT hp1, rfl⟩, _, rfl, _, ys.length, rfl, .inr ⟨_, sqT hq1, rfl⟩, rfl, _, rfl, ?_⟩
    refine ite2 (fun _ => ?_) (fun h => absurd (decide_eq_true (by rw [hxy])) h)
    refine ⟨_, rfl, _, ys.length, rfl, .inr ⟨_, sqT hq1, rfl⟩, _, rfl, by omega, by omega, fun D hD => ?_⟩
    refine lc_range (n := ((ys.length : Nat) : Int).toNat) (fun i H4 => Same H1 H4 ∧ ∃ bs : List Bool, H4 D = some (.lst (bs.map V.bl)) ∧ bs.all id = true ∧ bs.length ≤ i) ⟨Same.new hD, [], upd_same, rfl, Nat.le_refl _⟩ ?_ ?_
    · rintro i H4 hi ⟨sm, bs, e4, hb, hbl⟩
      have hi' : i < ys.length := by omega
      have hi2 : i < xs.length := by omega
      have hx : xs[i]? = some xs[i] := List.getElem?_eq_getElem hi2
      have hy : ys[i]? = some ys[i] := List.getElem?_eq_getElem hi'
      have al := each (s1.trans sm) i _ _ hx hy
      refine ⟨rfl, _, rfl, _, rfl, p, _, _, _, rfl, rfl, sqT (sm _ _ hp1), at_of (j := i) (by omega) hx, _, rfl, _, rfl, q, _, _, _, rfl, rfl, sqT (sm _ _ hq1), at_of (j := i) (by omega) hy, ?_⟩
      have fin : ∀ H5 : Hp, Same H4 H5 → ∃ acc, H5 D = some (.lst acc) ∧ acc.length < sizeLine ∧ Same H1 (upd H5 D (.lst (acc ++ [.bl true]))) ∧ ∃ bs : List Bool, (upd H5 D (.lst (acc ++ [.bl true]))) D = some (.lst (bs.map V.bl)) ∧ bs.all id = true ∧ bs.length ≤ i + 1 := fun H5 s5 => by
        refine ⟨_, s5 _ _ e4, by rw [List.length_map]; exact small1000 (by omega), fun b o h => by rw [upd_ne (ne_of_none h hD)]; exact s5 _ _ (sm _ _ h), bs ++ [true], by rw [upd_same, List.map_append]; rfl, ?_, by rw [List.length_append]; exact Nat.succ_le_succ hbl⟩
        rw [List.all_append, hb]
        rfl
      rcases al with ⟨e, fl⟩ | ⟨zs, t1, t2, fl, l1⟩
      · exact .inl ⟨xs[i], by rw [← e]; rfl, fl, fun H5 s5 => fin H5 s5⟩
      · exact .inr ⟨_, _, zs, rfl, t1, t2, fl, l1, fun H5 s5 => fin H5 s5⟩
    · rintro H4 ⟨sm, bs, e4, hb, hbl⟩
      refine ⟨D, bs, rfl, SqL.of e4, ?_⟩
      rw [hb]
      exact k _ (s1.trans sm)
end
end Xci

namespace Xci
open PySem L2

section
variable {P : Program} {w : World} {K : PySem.W.Frag} {mg : Str → Option Value} {base : Heap}
theorem paired_ints : ∀ {ys : List V} {ord : List Nat}, Paired (fun (v : V) (j : Nat) => v = V.int (j : Int)) ys ord → ys = (nat2 ord).map V.int
  | _, _, .nil => rfl
  | _, _, .cons h t => by
    have ih := paired_ints t
    rw [h, ih]
    rfl
def spWeights : Sp := fun vs H Q _ => ∃ a ld : Addr, vs = [.ref a] ∧ Deck H a ld ∧ ∀ (v : V) (ws : List Int) (H' : Hp), Xci.Mk H' v ws → ws.length = 6 → (∀ x ∈ ws, 0 ≤ x ∧ x ≤ 1000000) → Deck H' a ld → Fr a H H' → Q v H'
abbrev sLawWeights : Stmt := top 40
theorem scLawWeights : FnScope ["deck", "most", "mark"] ["deck"] (defScope sLawWeights) := ⟨rfl, rfl, rfl, by decide +kernel, rfl, by decide +kernel, by decide +kernel⟩

theorem ok_weightsL {f : Addr} {fd : FuncData} (F : Fun K "_law_weights" "_law_weights" sLawWeights f fd) (T : Txt mg) (HT : Has P w K mg base "_law_take" ["deck", "many"] 1 spTake) : FnOk P w K mg base CX0 2 f fd ["deck"] spWeights := by
  refine F.ok scLawWeights (fun vs H Q E h => ?_) (fun cdv A outer s H vs Q E hr h => ?_)
  · obtain ⟨a, ld, rfl, _⟩ := h
    rfl
  · obtain ⟨a, ld, rfl, hd, k⟩ := h
    refine ⟨_, (C8.pss_cut (ps_set (i := 1) scLawWeights.nd rfl (by first | exact Or.inl rfl | exact Or.inr rfl) (pe_ix ix_tup (pe_tup (pa_cons pe_int (pa_cons pe_int (pa_cons pe_int pa_nil)))) (pe_callH HT (hr.mono (by decide)) rfl (pa_cons (pv 0) (pa_cons pe_int pa_nil))) (fun _ _ => rfl)))
      (pss_one (ps_ret (pe_callTy call_tuple_of rfl T.tuple (by decide +kernel) (pa_cons (pe_lc (own := [("mark", 2)]) rfl scLawWeights.nd (pi_range1 rfl T.range (pa_cons pe_int pa_nil)) (blkOk_by (N := ["deck", "most", "mark"]) (sc := defScope sLawWeights) (by decide +kernel)) (fun _ _ _ _ _ => (pg_name (i := 2) scLawWeights.nd rfl (by first | exact Or.inl rfl | exact Or.inr rfl))) (fun _ _ _ _ _ => pts_nil) (fun _ _ _ _ _ => (pe_callH HT (hr.mono (by decide)) rfl (pa_cons (pv 0) (pa_cons (pv 1) pa_nil))))) pa_nil))))), ?_⟩
    refine ⟨fun σ' H2 => ∃ most : Int, 0 < most ∧ most ≤ 1000001 ∧ σ' = [some (.ref a), some (.int most), none] ∧ Deck H2 a ld ∧ Fr a H H2, ?_, ?_⟩
    · refine ⟨(by show 3 ≤ sizeLine; decide), fun t ht => ?_⟩
      have et : (upd H t (.tup [.int 3, .int 10, .int 1000001])) t = some (.tup [.int 3, .int 10, .int 1000001]) := upd_same
      have s1 : Same H (upd H t (.tup [.int 3, .int 10, .int 1000001])) := Same.new ht
      generalize upd H t (.tup [.int 3, .int 10, .int 1000001]) = H1 at *
      have hd1 := hd.keep s1
      refine ⟨_, rfl, a, ld, _, rfl, hd1, by decide, by decide, fun d H2 d0 d1 hd2 f2 _ => ?_⟩
      have et2 := hd1.tfr f2 _ _ et
      have ch : ∃ (j : Nat) (n : Int), d = (j : Int) ∧ ([.int 3, .int 10, .int 1000001] : List V)[j]? = some (.int n) ∧ 0 < n ∧ n ≤ 1000001 := by
        have : d = 0 ∨ d = 1 ∨ d = 2 := by omega
        rcases this with e | e | e
        · exact ⟨0, 3, e, rfl, by decide, by decide⟩
        · exact ⟨1, 10, e, rfl, by decide, by decide⟩
        · exact ⟨2, 1000001, e, rfl, by decide, by decide⟩
      obtain ⟨j, n, ej, en, n0, n1⟩ := ch
      refine ⟨t, _, _, _, rfl, rfl, sqT et2, at_of ej en, ?_⟩
      exact ⟨n, n0, n1, rfl, hd2, (Fr.same s1).trans f2⟩
    rintro σ' H2 ⟨most, m0, m1, rfl, hd2, f2⟩
    refine ⟨_, rfl, by decide, by decide, fun D hD => ?_⟩
    have hD0 := hd2.free f2 hD
    have nD := hd.ne hD0
    have mD := hd.ne' hD0
    refine lc_range (n := 6) (fun i H4 => ∃ ws : List Int, Deck H4 a ld ∧ Fr a H H4 ∧ H4 D = some (.lst (ws.map V.int)) ∧ ws.length = i ∧ ∀ x ∈ ws, 0 ≤ x ∧ x ≤ 1000000) ⟨[], hd2.keep (Same.new hD), f2.trans (Fr.new hD), upd_same, rfl, by simp⟩ ?_ ?_
    · rintro i H4 hi ⟨ws, hd4, f4, e4, hl, hb⟩
      refine ⟨rfl, _, rfl, _, rfl, a, ld, _, rfl, hd4, m0, by omega, fun d H5 d0 d1 hd5 f5 _ => ?_⟩
      refine ⟨_, f5 _ _ e4 nD, by rw [List.length_map]; exact small1000 (by omega), ws ++ [d], hd5.put nD mD, fun b o h n => by rw [upd_ne (ne_of_none h hD0)]; exact f5 _ _ (f4 _ _ h n) n, by rw [upd_same, List.map_append]; rfl, by rw [List.length_append, hl]; rfl, fun x hx => ?_⟩
      rcases List.mem_append.mp hx with q | q
      · exact hb x q
      · rw [List.mem_singleton.mp q]; omega
    · rintro H4 ⟨ws, hd4, f4, e4, hl, hb⟩
      exact ⟨_, _, rfl, .inl ⟨SqL.of e4, fun l hl' => k _ ws _ ⟨l, rfl, upd_same⟩ hl hb (hd4.keep (Same.new hl')) (f4.trans (Fr.new hl'))⟩⟩
abbrev sLaw : Stmt := top 46
theorem scLaw : FnScope ["script", "deck", "turn", "many", "cells", "most", "entries", "weights", "twice", "weight", "even", "order", "turned", "number", "more", "mark", "cell", "due", "other"] ["script"] (defScope sLaw) := ⟨rfl, rfl, rfl, by decide +kernel, rfl, by decide +kernel, by decide +kernel⟩
def spLaw (K : PySem.W.Frag) : Sp := fun vs H Q _ => ∃ (a : Addr) (ns : List Int), vs = [.ref a] ∧ SqL K H a (ns.map V.int) ∧ ns.length ≤ 63 ∧ ∀ H', Q (.bl true) H'
theorem BookSt.fr {C a ld : Addr} {H H' : Hp} {b : Addr} {man : Str} {ws : List Int} {es : List Ent} (h : BookSt C H b man ws es) (d : Deck H a ld) (f : Fr a H H') : BookSt C H' b man ws es := by
  obtain ⟨⟨p, wt, ys, ⟨dx, a1⟩, a2, a3, a4⟩, b1, b2⟩ := h
  obtain ⟨zs, hz⟩ := d.is
  have t := d.tfr f
  exact ⟨⟨p, wt, ys, ⟨dx, f _ _ a1 (ne_of a1 hz (by intro z; cases z))⟩, t _ _ a2, Ents.keep t a3, a4.keep t⟩, b1, b2⟩
/-- all that the inner loop reads -/
structure S13 (C pe : Addr) (ey : List V) (es : List Ent) (wv tv ev : V) (ws : List Int) (c : Int) (oq : Addr) (ord : List Nat) (tb : Addr) (esT : List Ent) (H : Hp) : Prop where
  ep : H pe = some (.tup ey)
  em : Ents H ey es
  mw : Xci.Mk H wv ws
  m2 : Xci.Mk H tv (ws.map (2 * ·))
  me : Xci.Mk H ev (List.replicate 6 c)
  oq : H oq = some (.lst ((nat2 ord).map V.int))
  tb : BookSt C H tb "weights" ws esT
theorem S13.same {C pe : Addr} {ey : List V} {es : List Ent} {wv tv ev : V} {ws : List Int} {c : Int} {oq : Addr} {ord : List Nat} {tb : Addr} {esT : List Ent} {H H' : Hp} (h : S13 C pe ey es wv tv ev ws c oq ord tb esT H) (s : Same H H') : S13 C pe ey es wv tv ev ws c oq ord tb esT H' :=
  ⟨s _ _ h.ep, Ents.keep (TFr.same s) h.em, Tup.keep (TFr.same s) h.mw, Tup.keep (TFr.same s) h.m2, Tup.keep (TFr.same s) h.me, s _ _ h.oq, h.tb.same s⟩
theorem ok_law {f C : Addr} {fd : FuncData} (F : Fun K "law" "law" sLaw f fd) (T : Txt mg) (HD : Has P w K mg base "_law_deck" ["script"] 1 (spDeck K)) (HT : Has P w K mg base "_law_take" ["deck", "many"] 1 spTake)
    (HFa : Has P w K mg base "_law_family" ["deck"] 3 spFamily) (HWs : Has P w K mg base "_law_words" ["deck", "most"] 3 spWords) (HEn : Has P w K mg base "_law_entries" ["deck", "cells", "words", "most"] 3 (spEntries K)) (HWt : Has P w K mg base "_law_weights" ["deck"] 2 spWeights) (HMx : Has P w K mg base "_law_mixed" ["deck", "things"] 2 (spMixed K))
    (HSp : Has P w K mg base "_law_speaks" ["manner", "entries", "weights", "cell"] 4 (spSpeaks K)) (HLk : Has P w K mg base "_law_like" ["told", "due"] 3 spLike2) (HSr : Has P w K mg base "speaker" ["book", "cell"] 5 (spSpeaker C))
    (HBk : HasC P w K mg base "Book" C ["self", "manner", "entries", "weights"] 6 (spBook C)) :
    FnOk P w K mg base CX0 8 f fd ["script"] (spLaw K) := by
  refine F.ok scLaw (fun vs H Q E h => ?_) (fun cdv A outer s H vs Q E hr h => ?_)
  · obtain ⟨a, ns, rfl, _⟩ := h
    rfl
  · obtain ⟨sa, ns, rfl, hS, hlen, k⟩ := h
    refine ⟨_, (pss_cons (ps_set (i := 1) scLaw.nd rfl (by first | exact Or.inl rfl | exact Or.inr rfl) (pe_callH HD (hr.mono (by decide)) rfl (pa_cons (pv 0) pa_nil)))
      (pss_cons (ps_for PassesOwn.never rfl (pi_range1 rfl T.range (pa_cons pe_int pa_nil)) (pg_name (i := 2) scLaw.nd rfl (by first | exact Or.inl rfl | exact Or.inr rfl)) (C8.pss_cut (ps_asg (pe_callH HFa (hr.mono (by decide)) rfl (pa_cons (pv 1) pa_nil)) (pg_tup rfl (pgs_cons (pg_name (i := 3) scLaw.nd rfl (by first | exact Or.inl rfl | exact Or.inr rfl)) (pgs_cons (pg_name (i := 4) scLaw.nd rfl (by first | exact Or.inl rfl | exact Or.inr rfl)) pgs_nil))))
      (C8.pss_cut (ps_set (i := 5) scLaw.nd rfl (by first | exact Or.inl rfl | exact Or.inr rfl) pe_int)
      (C8.pss_cut (ps_if (pt_cmpR op_eq (pe_callH HT (hr.mono (by decide)) rfl (pa_cons (pv 1) (pa_cons pe_int pa_nil))) pe_int (nomark _)) (pss_one (ps_set (i := 5) scLaw.nd rfl (by first | exact Or.inl rfl | exact Or.inr rfl) pe_int)) pss_nil)
      (C8.pss_cut (ps_set (i := 6) scLaw.nd rfl (by first | exact Or.inl rfl | exact Or.inr rfl) (pe_callH HEn (hr.mono (by decide)) rfl (pa_cons (pv 1) (pa_cons (pv 4) (pa_cons (pe_callH HWs (hr.mono (by decide)) rfl (pa_cons (pv 1) (pa_cons pe_int pa_nil))) (pa_cons (pv 5) pa_nil))))))
      (C8.pss_cut (ps_set (i := 7) scLaw.nd rfl (by first | exact Or.inl rfl | exact Or.inr rfl) (pe_callH HWt (hr.mono (by decide)) rfl (pa_cons (pv 1) pa_nil)))
      (C8.pss_cut (ps_set (i := 8) scLaw.nd rfl (by first | exact Or.inl rfl | exact Or.inr rfl) (pe_callTy call_tuple_of rfl T.tuple (by decide +kernel) (pa_cons (pe_lc (own := [("weight", 9)]) rfl scLaw.nd (pi_tup (pv 7)) (blkOk_by (N := ["script", "deck", "turn", "many", "cells", "most", "entries", "weights", "twice", "weight", "even", "order", "turned", "number", "more", "mark", "cell", "due", "other"]) (sc := defScope sLaw) (by decide +kernel)) (fun _ _ _ _ _ => (pg_name (i := 9) scLaw.nd rfl (by first | exact Or.inl rfl | exact Or.inr rfl))) (fun _ _ _ _ _ => pts_nil) (fun _ _ _ _ _ => (pe_op op_mul pe_int (pv 9)))) pa_nil)))
      (C8.pss_cut (ps_set (i := 10) scLaw.nd rfl (by first | exact Or.inl rfl | exact Or.inr rfl) (pe_op op_repT (pe_tup (pa_cons (pe_op op_add pe_int (pe_callH HT (hr.mono (by decide)) rfl (pa_cons (pv 1) (pa_cons (pe_op op_pow pe_int pe_int) pa_nil)))) pa_nil)) pe_int))
      (C8.pss_cut (ps_set (i := 11) scLaw.nd rfl (by first | exact Or.inl rfl | exact Or.inr rfl) (pe_callH HMx (hr.mono (by decide)) rfl (pa_cons (pv 1) (pa_cons (pe_listRg rfl rfl T.list (prg_1 rfl T.range (pe_callB call_len rfl T.len PySem.boot_len (pa_cons (pv 6) pa_nil)))) pa_nil))))
      (C8.pss_cut (ps_set (i := 12) scLaw.nd rfl (by first | exact Or.inl rfl | exact Or.inr rfl) (pe_makeH HBk (hr.mono (by decide)) rfl (pa_cons pe_str (pa_cons (pe_callTy call_tuple_of rfl T.tuple (by decide +kernel) (pa_cons (pe_lc (own := [("number", 13)]) rfl scLaw.nd (pi_list (pv 11)) (blkOk_by (N := ["script", "deck", "turn", "many", "cells", "most", "entries", "weights", "twice", "weight", "even", "order", "turned", "number", "more", "mark", "cell", "due", "other"]) (sc := defScope sLaw) (by decide +kernel)) (fun _ _ _ _ _ => (pg_name (i := 13) scLaw.nd rfl (by first | exact Or.inl rfl | exact Or.inr rfl))) (fun _ _ _ _ _ => pts_nil) (fun _ _ _ _ _ => (pe_ix (show IxR _ (rIxT K) from ix_tup) (pv 6) (pv 13) (fun _ _ => rfl)))) pa_nil)) (pa_cons (pv 7) pa_nil)))))
      (C8.pss_cut (ps_set (i := 14) scLaw.nd rfl (by first | exact Or.inl rfl | exact Or.inr rfl) (pe_callTy call_tuple_of rfl T.tuple (by decide +kernel) (pa_cons (pe_lc (own := [("mark", 15)]) rfl scLaw.nd (pi_range1 rfl T.range (pa_cons pe_int pa_nil)) (blkOk_by (N := ["script", "deck", "turn", "many", "cells", "most", "entries", "weights", "twice", "weight", "even", "order", "turned", "number", "more", "mark", "cell", "due", "other"]) (sc := defScope sLaw) (by decide +kernel)) (fun _ _ _ _ _ => (pg_name (i := 15) scLaw.nd rfl (by first | exact Or.inl rfl | exact Or.inr rfl))) (fun _ _ _ _ _ => pts_one (pt_cmpR op_eq (pe_callH HT (hr.mono (by decide)) rfl (pa_cons (pv 1) (pa_cons pe_int pa_nil))) pe_int (nomark _))) (fun _ _ _ _ _ => (pv 15))) pa_nil)))
      (pss_one (ps_for PassesOwn.never rfl (pi_list (pe_op op_cat (pe_callTy call_list_of rfl T.list (by decide +kernel) (pa_cons (pv 4) pa_nil)) (pe_lst (pa_cons (pv 14) pa_nil)))) (pg_name (i := 16) scLaw.nd rfl (by first | exact Or.inl rfl | exact Or.inr rfl)) (C8.pss_cut (ps_set (i := 17) scLaw.nd rfl (by first | exact Or.inl rfl | exact Or.inr rfl) (pe_callH HSp (hr.mono (by decide)) rfl (pa_cons pe_str (pa_cons (pv 6) (pa_cons (pv 7) (pa_cons (pv 16) pa_nil))))))
      (C8.pss_cut (ps_if (pt_not (pt_val (pe_callH HLk (hr.mono (by decide)) rfl (pa_cons (pe_callH HSr (hr.mono (by decide)) rfl (pa_cons (pe_makeH HBk (hr.mono (by decide)) rfl (pa_cons pe_str (pa_cons (pv 6) (pa_cons (pv 7) pa_nil)))) (pa_cons (pv 16) pa_nil))) (pa_cons (pv 17) pa_nil))))) (pss_one (ps_ret pe_bl)) pss_nil)
      (C8.pss_cut (ps_if (PW.pt (pw_and (pt_cmpR op_le (pe_callB (cr_maxT rfl) rfl T.max (by decide +kernel) (pa_cons (pv 8) pa_nil)) (pe_op op_pow pe_int pe_int) (nomark _)) (pw_and1 (pt_cmpR (op_neD (hu64 hr)) (pe_callH HSr (hr.mono (by decide)) rfl (pa_cons (pe_makeH HBk (hr.mono (by decide)) rfl (pa_cons pe_str (pa_cons (pv 6) (pa_cons (pv 8) pa_nil)))) (pa_cons (pv 16) pa_nil))) (pv 17) (nomark _))))) (pss_one (ps_ret pe_bl)) pss_nil)
      (C8.pss_cut (ps_set (i := 18) scLaw.nd rfl (by first | exact Or.inl rfl | exact Or.inr rfl) (pe_callH HSr (hr.mono (by decide)) rfl (pa_cons (pv 12) (pa_cons (pv 16) pa_nil))))
      (C8.pss_cut (ps_if (PW.pt (pw_or (pt_cmpR op_ne (pe_ix ix_tup (pv 18) pe_int (fun _ _ => rfl)) (pe_ix ix_tup (pv 17) pe_int (fun _ _ => rfl)) (nomark _)) (pw_or1 (PW.pt (pw_and (pt_cmpR op_eq (pe_ix ix_tup (pv 17) pe_int (fun _ _ => rfl)) pe_str (nomark _)) (pw_and1 (pt_cmpR op_ne (pe_ix ix_list (pv 11) (pe_ix ix_tup (pv 18) pe_int (fun _ _ => rfl)) (fun _ _ => rfl)) (pe_ix ix_tup (pv 17) pe_int (fun _ _ => rfl)) (nomark _)))))))) (pss_one (ps_ret pe_bl)) pss_nil)
      (C8.pss_cut (ps_if (PW.pt (pw_and (pt_cmpR op_eq (pe_ix ix_tup (pv 17) pe_int (fun _ _ => rfl)) pe_str (nomark _)) (pw_and1 (pt_cmpR (op_neD (hu64 hr)) (pe_callB cr_sortedI rfl T.sorted (by decide +kernel) (pa_cons (pe_lc (own := [("number", 13)]) rfl scLaw.nd (pi_tup (pe_ix ix_tup (pv 18) pe_int (fun _ _ => rfl))) (blkOk_by (N := ["script", "deck", "turn", "many", "cells", "most", "entries", "weights", "twice", "weight", "even", "order", "turned", "number", "more", "mark", "cell", "due", "other"]) (sc := defScope sLaw) (by decide +kernel)) (fun _ _ _ _ _ => (pg_name (i := 13) scLaw.nd rfl (by first | exact Or.inl rfl | exact Or.inr rfl))) (fun _ _ _ _ _ => pts_nil) (fun _ _ _ _ _ => (pe_ix (show IxR _ (rIxL K) from ix_list) (pv 11) (pv 13) (fun _ _ => rfl)))) pa_nil)) (pe_callTy call_list_of rfl T.list (by decide +kernel) (pa_cons (pe_ix ix_tup (pv 17) pe_int (fun _ _ => rfl)) pa_nil)) (nomark _))))) (pss_one (ps_ret pe_bl)) pss_nil)
      (C8.pss_cut (ps_set (i := 17) scLaw.nd rfl (by first | exact Or.inl rfl | exact Or.inr rfl) (pe_callH HSp (hr.mono (by decide)) rfl (pa_cons pe_str (pa_cons (pv 6) (pa_cons pe_non (pa_cons (pv 16) pa_nil))))))
      (C8.pss_cut (ps_if (pt_not (pt_val (pe_callH HLk (hr.mono (by decide)) rfl (pa_cons (pe_callH HSr (hr.mono (by decide)) rfl (pa_cons (pe_makeH HBk (hr.mono (by decide)) rfl (pa_cons pe_str (pa_cons (pv 6) (pa_cons pe_non pa_nil)))) (pa_cons (pv 16) pa_nil))) (pa_cons (pv 17) pa_nil))))) (pss_one (ps_ret pe_bl)) pss_nil)
      (pss_one (ps_if (pt_cmpR (op_neD (hu64 hr)) (pe_callH HSr (hr.mono (by decide)) rfl (pa_cons (pe_makeH HBk (hr.mono (by decide)) rfl (pa_cons pe_str (pa_cons (pv 6) (pa_cons (pv 10) pa_nil)))) (pa_cons (pv 16) pa_nil))) (pv 17) (nomark _)) (pss_one (ps_ret pe_bl)) pss_nil)))))))))))))))))))))))
      (pss_one (ps_ret pe_bl)))), ?_⟩
    refine ⟨_, rfl, sa, ns, rfl, hS, hlen, fun a ld H1 hd1 s1 => ?_⟩
    refine ⟨_, rfl, by decide, by decide, ?_⟩
    refine for_range (n := 3) (fun i σ H2 => Deck H2 a ld ∧ ∃ v2 v3 v4 v5 v6 v7 v8 v9 v10 v11 v12 v13 v14 v15 v16 v17 v18 : Option V, σ = [some (.ref sa), some (.ref a), v2, v3, v4, v5, v6, v7, v8, v9, v10, v11, v12, v13, v14, v15, v16, v17, v18]) ⟨hd1, _, _, _, _, _, _, _, _, _, _, _, _, _, _, _, _, _, rfl⟩ ?_ (fun σ H2 _ => k _)
    rintro i σ H2 hi ⟨hd2, v2, v3, v4, v5, v6, v7, v8, v9, v10, v11, v12, v13, v14, v15, v16, v17, v18, rfl⟩
    refine ⟨fun σ' H3 => ∃ (pc : Addr) (many : Int) (cy : List V) (cells : List (List Int)), FamOk many cells ∧ Deck H3 a ld ∧ H3 pc = some (.tup cy) ∧ Mks H3 cy cells ∧ ∃ v2, σ' = [some (.ref sa), some (.ref a), v2, some (.int many), some (.ref pc), v5, v6, v7, v8, v9, v10, v11, v12, v13, v14, v15, v16, v17, v18], ?_, ?_⟩
    · refine ⟨_, rfl, a, ld, rfl, hd2, fun v p many ys cells H3 tv hp mk fam hd3 f3 => ?_⟩
      obtain ⟨t, rfl, ht⟩ := tv
      exact ⟨t, _, rfl, sqT ht, rfl, _, _, rfl, _, _, rfl, rfl, p, many, ys, cells, fam, hd3, hp, mk, _, rfl⟩
    clear hi
    rintro σ' H3 ⟨pc, many, cy, cells, fam, hd3, cp, cm, w2, rfl⟩
    refine ⟨fun σ' H4 => H4 = H3 ∧ σ' = [some (.ref sa), some (.ref a), w2, some (.int many), some (.ref pc), some (.int 8), v6, v7, v8, v9, v10, v11, v12, v13, v14, v15, v16, v17, v18], ⟨rfl, rfl⟩, ?_⟩
    rintro σ' H4 ⟨rfl, rfl⟩
    refine ⟨fun σ' H5 => Deck H5 a ld ∧ Fr a H4 H5 ∧ ∃ most : Int, 0 ≤ most ∧ most ≤ 40 ∧ σ' = [some (.ref sa), some (.ref a), w2, some (.int many), some (.ref pc), some (.int most), v6, v7, v8, v9, v10, v11, v12, v13, v14, v15, v16, v17, v18], ?_, ?_⟩
    · refine ⟨_, rfl, a, ld, _, rfl, hd3, by decide, by decide, fun d H5 d0 d1 hd5 f5 _ => ⟨rfl, _, rfl, ?_⟩⟩
      exact ite2 (fun _ => ⟨hd5, f5, 40, by decide, by decide, rfl⟩) (fun _ => ⟨hd5, f5, 8, by decide, by decide, rfl⟩)
    rintro σ' H5 ⟨hd5, f5, most, t0, t1, rfl⟩
    have tf5 := hd3.tfr f5
    have cp5 := tf5 _ _ cp
    have cm5 := cm.keep tf5
    have npc : pc ≠ a := by
      obtain ⟨ys, hy⟩ := hd5.is
      exact ne_of cp5 hy (by intro z; cases z)
    have okc : ∀ c ∈ cells, MarksOk 6 c := fun c hc => (fam.ok c hc).le fam.hi
    have cl := fam.len
    refine ⟨fun σ' H7 => Deck H7 a ld ∧ Fr a H5 H7 ∧ ∃ (pe : Addr) (ey : List V) (es : List Ent), H7 pe = some (.tup ey) ∧ Ents H7 ey es ∧ es.length ≤ 40 ∧ (∀ e ∈ es, EntOk e) ∧ σ' = [some (.ref sa), some (.ref a), w2, some (.int many), some (.ref pc), some (.int most), some (.ref pe), v7, v8, v9, v10, v11, v12, v13, v14, v15, v16, v17, v18], ?_, ?_⟩
    · refine ⟨_, rfl, _, rfl, _, rfl, a, ld, _, rfl, hd5, by decide, by decide, fun qw zs H6 zne zl znd zok wq hq hd6 f6 => ?_⟩
      have tf6 := hd5.tfr f6
      exact ⟨_, rfl, a, ld, pc, qw, cy, cells, zs, most, rfl, hd6, npc, .inr (tf6 _ _ cp5), cm5.keep tf6, fam.ne, by omega, okc, wq, hd5.ne hq, zne, by omega, zok, t0, by omega,
        fun r ey es H7 er em el eok hd7 f7 => ⟨hd7, f6.trans f7, r, ey, es, er, em, by omega, eok, rfl⟩⟩
    rintro σ' H7 ⟨hd7, f7, pe, ey, es, ep, em, el, eok, rfl⟩
    have tf7 := hd5.tfr f7
    have cp7 := tf7 _ _ cp5
    have cm7 := cm5.keep tf7
    have eyl := Paired.length em
    refine ⟨fun σ' H8 => Deck H8 a ld ∧ Fr a H7 H8 ∧ ∃ (wv : V) (ws : List Int), Xci.Mk H8 wv ws ∧ ws.length = 6 ∧ (∀ x ∈ ws, 0 ≤ x ∧ x ≤ 1000000) ∧ σ' = [some (.ref sa), some (.ref a), w2, some (.int many), some (.ref pc), some (.int most), some (.ref pe), some wv, v8, v9, v10, v11, v12, v13, v14, v15, v16, v17, v18], ?_, ?_⟩
    · exact ⟨_, rfl, a, ld, rfl, hd7, fun v ws H8 mw wl wb hd8 f8 => ⟨hd8, f8, v, ws, mw, wl, wb, rfl⟩⟩
    rintro σ' H8 ⟨hd8, f8, wv, ws, mw, wl, wb, rfl⟩
    have tf8 := hd7.tfr f8
    have ep8 := tf8 _ _ ep
    have em8 := Ents.keep tf8 em
    have cp8 := tf8 _ _ cp7
    have cm8 := cm7.keep tf8
    refine ⟨fun σ' H9 => Same H8 H9 ∧ ∃ tv : V, Xci.Mk H9 tv (ws.map (2 * ·)) ∧ σ' = [some (.ref sa), some (.ref a), w2, some (.int many), some (.ref pc), some (.int most), some (.ref pe), some wv, some tv, v9, v10, v11, v12, v13, v14, v15, v16, v17, v18], ?_, ?_⟩
    · obtain ⟨wp, rfl, hwp⟩ := mw
      refine ⟨_, rfl, wp, rfl, ⟨_, sqT hwp⟩, fun D hD => ?_⟩
      refine lc_tup (K := K) (a := wp) (xs := ws.map V.int) (fun i H4 => Same H8 H4 ∧ H4 D = some (.lst (((ws.take i).map (2 * ·)).map V.int))) ⟨Same.new hD, upd_same⟩ (fun i H4 _ ⟨s4, _⟩ => sqT (s4 _ _ hwp)) ?_ ?_
      · rintro i y H4 hi ⟨sm, e4⟩
        obtain ⟨m, hm, rfl⟩ := int_of hi
        refine ⟨rfl, _, rfl, _, _, rfl, rfl, .inl ⟨by decide, by decide⟩, ?_⟩
        refine ⟨_, e4, by rw [List.length_map, List.length_map, List.length_take]; exact small1000 (by omega), fun b o h => by rw [upd_ne (ne_of_none h hD)]; exact sm b o h, ?_⟩
        rw [upd_same, take_map hm, List.map_append]
        rfl
      · rintro H4 ⟨sm, e4⟩
        rw [List.length_map, List.take_length] at e4
        refine ⟨D, _, rfl, .inl ⟨SqL.of e4, fun l hl => ?_⟩⟩
        exact ⟨sm.trans (Same.new hl), _, ⟨l, rfl, upd_same⟩, rfl⟩
    rintro σ' H9 ⟨s9, tv, m2, rfl⟩
    have hd9 := hd8.keep s9
    refine ⟨fun σ' H10 => Deck H10 a ld ∧ Fr a H9 H10 ∧ ∃ (ev : V) (c : Int), Xci.Mk H10 ev (List.replicate 6 c) ∧ 1 ≤ c ∧ c ≤ 1000000 ∧ σ' = [some (.ref sa), some (.ref a), w2, some (.int many), some (.ref pc), some (.int most), some (.ref pe), some wv, some tv, v9, some ev, v11, v12, v13, v14, v15, v16, v17, v18], ?_, ?_⟩
    · have e6 : (10 : Int) ^ (6 : Int).toNat = 1000000 := by decide
      refine ⟨_, rfl, _, _, rfl, rfl, ⟨by decide, by decide, by decide⟩, a, ld, _, rfl, hd9, by rw [e6]; decide, by rw [e6]; decide, fun d H10 d0 d1 hd10 f10 _ => ?_⟩
      rw [e6] at d1
      refine ⟨_, _, rfl, rfl, (by show 1 ≤ sizeLine; decide), fun t ht => ?_⟩
      refine ⟨t, _, _, rfl, rfl, sqT upd_same, (by intro z; cases z), by decide, by decide, (by show 1 ≤ 1000; decide), fun p hp => ?_⟩
      have q := (Same.new (o := .tup [.int (1 + d)]) ht).trans (Same.new (o := .tup ((List.replicate 6 (1 + d)).map V.int)) hp)
      exact ⟨hd10.keep q, f10.trans (Fr.same q), .ref p, 1 + d, ⟨p, rfl, upd_same⟩, by omega, by omega, rfl⟩
    rintro σ' H10 ⟨hd10, f10, ev, c, me, c1, c2, rfl⟩
    refine ⟨fun σ' H11 => Deck H11 a ld ∧ Fr a H10 H11 ∧ ∃ (oq : Addr) (ord : List Nat), H11 oq = some (.lst ((nat2 ord).map V.int)) ∧ oq ≠ a ∧ ord.Perm (List.range es.length) ∧ σ' = [some (.ref sa), some (.ref a), w2, some (.int many), some (.ref pc), some (.int most), some (.ref pe), some wv, some tv, v9, some ev, some (.ref oq), v12, v13, v14, v15, v16, v17, v18], ?_, ?_⟩
    · have t810 : TFr H8 H10 := (TFr.same s9).trans (hd9.tfr f10)
      have ep10 := t810 _ _ ep8
      refine ⟨_, rfl, _, rfl, _, ey.length, rfl, .inr ⟨_, sqT ep10, rfl⟩, _, rfl, RgOk.of_le (by omega) (by omega) (by omega) (by omega), fun l hl => ?_⟩
      refine ⟨a, ld, l, _, rfl, hd10.keep (Same.new hl), Sq.lst upd_same, by rw [rgV_length]; omega, fun q ys H11 pm eq hq0 hd11 f11 => ?_⟩
      have hq := (Same.new (o := .lst (rgV 0 ((ey.length : Nat) : Int))) hl).free hq0
      have e1 : rgV 0 ((ey.length : Nat) : Int) = (nat2 (List.range ey.length)).map V.int := by
        rw [rgV_rng]
        unfold rng nat2
        rw [Int.toNat_natCast]
      rw [e1] at pm
      have ex : ∃ ord : List Nat, ys = (nat2 ord).map V.int ∧ ord.Perm (List.range ey.length) := by
        have pr : Paired (fun (v : V) (j : Nat) => v = V.int (j : Int)) ((nat2 (List.range ey.length)).map V.int) (List.range ey.length) := by
          generalize List.range ey.length = l
          induction l with
          | nil => exact .nil
          | cons j r ih => exact .cons rfl ih
        obtain ⟨ord, po, pp⟩ := Paired.perm pm pr
        exact ⟨ord, paired_ints po, pp⟩
      obtain ⟨ord, rfl, po⟩ := ex
      rw [eyl] at po
      exact ⟨hd11, (Fr.new hl).trans f11, q, ord, eq, hd10.ne hq, po, rfl⟩
    rintro σ' H11 ⟨hd11, f11, oq, ord, eo, nq, po, rfl⟩
    have t911 := hd9.tfr (f10.trans f11)
    have t1011 := hd10.tfr f11
    have t811 := (TFr.same s9).trans t911
    have ordl : ord.length = es.length := by rw [po.length_eq, List.length_range]
    refine ⟨fun σ' H12 => Same H11 H12 ∧ ∃ (tb : Addr) (esT : List Ent), Picked es ord esT ∧ BookSt C H12 tb "weights" ws esT ∧ σ' = [some (.ref sa), some (.ref a), w2, some (.int many), some (.ref pc), some (.int most), some (.ref pe), some wv, some tv, v9, some ev, some (.ref oq), some (.ref tb), v13, v14, v15, v16, v17, v18], ?_, ?_⟩
    · refine ⟨_, rfl, oq, rfl, ⟨_, SqL.of eo⟩, fun D hD => ?_⟩
      have ep11 := t811 _ _ ep8
      have em11 := Ents.keep t811 em8
      refine lc_list (K := K) (a := oq) (xs := (nat2 ord).map V.int) (fun i H4 => Same H11 H4 ∧ ∃ (us : List V) (eT : List Ent), H4 D = some (.lst us) ∧ Ents H4 us eT ∧ Picked es (ord.take i) eT) ⟨Same.new hD, [], [], upd_same, .nil, rfl, by simp⟩ (fun i H4 _ ⟨s4, _⟩ => SqL.of (s4 _ _ eo)) ?_ ?_
      · rintro i y H4 hi ⟨sm, us, eT, e4, m4, P4⟩
        obtain ⟨j, hj, rfl⟩ := num_of hi
        have hio := (List.getElem?_eq_some_iff.mp hj).1
        have hj2 : j < es.length := List.mem_range.mp (po.subset (List.mem_of_getElem? hj))
        obtain ⟨r0, u0, e0, hy, hr0, mu0, he⟩ := ent_at em11 hj2
        have ul : us.length ≤ 40 := by rw [Paired.length m4, P4.len, List.length_take]; omega
        refine ⟨rfl, _, rfl, _, rfl, pe, _, _, _, rfl, rfl, sqT (sm _ _ ep11), at_of (j := j) rfl hy, ?_⟩
        have tf : TFr H4 (upd H4 D (.lst (us ++ [.ref r0]))) := TFr.lst e4
        refine ⟨us, e4, small1000 (by omega), fun b o h => by rw [upd_ne (ne_of_none h hD)]; exact sm b o h, us ++ [.ref r0], eT ++ [e0], upd_same, ?_, P4.snoc (Nat.le_of_lt hio) hj he⟩
        exact Paired.app (Ents.keep tf m4) (Paired.one ⟨u0, ⟨r0, rfl, tf _ _ (sm _ _ hr0)⟩, Tup.keep tf (Tup.keep (TFr.same sm) mu0)⟩)
      · rintro H4 ⟨sm, us, eT, e4, m4, P4⟩
        rw [List.length_map, nat2_len, List.take_length] at P4
        refine ⟨D, _, rfl, .inl ⟨SqL.of e4, fun l hl => ?_⟩⟩
        have sl : Same H4 (upd H4 l (.tup us)) := Same.new hl
        refine ⟨_, rfl, ?_⟩
        refine fun bx dx nx ndx _ => made_book (ws := ws) nx ndx (.inr (.inr (.inl rfl))) (.inr ⟨rfl, Tup.keep (t811.trans (TFr.same (sm.trans sl))) (Tup.keep (TFr.refl _) mw), wl, wb⟩) upd_same (Ents.keep (TFr.same sl) m4) (P4.ok eok) (by rw [P4.len]; omega) fun G6 hb s6 => ⟨rfl, ?_⟩
        exact ⟨(sm.trans sl).trans s6, bx, eT, P4, hb, rfl⟩
    rintro σ' H12 ⟨s12, tb, esT, PK, hbt, rfl⟩
    have hd12 := hd11.keep s12
    refine ⟨fun σ' H13 => Deck H13 a ld ∧ Fr a H12 H13 ∧ ∃ (u : V) (ms : List Int), Xci.Mk H13 u ms ∧ MarksOk 6 ms ∧ σ' = [some (.ref sa), some (.ref a), w2, some (.int many), some (.ref pc), some (.int most), some (.ref pe), some wv, some tv, v9, some ev, some (.ref oq), some (.ref tb), v13, some u, v15, v16, v17, v18], ?_, ?_⟩
    · refine ⟨_, rfl, by decide, by decide, fun D hD => ?_⟩
      have nD := hd12.ne hD
      have mD := hd12.ne' hD
      refine lc_range (n := 6) (fun i H4 => ∃ ms : List Int, Deck H4 a ld ∧ Fr a H12 H4 ∧ H4 D = some (.lst (ms.map V.int)) ∧ ms.length ≤ i ∧ MarksOk (i : Int) ms) ⟨[], hd12.keep (Same.new hD), Fr.new hD, upd_same, Nat.le_refl _, .nil, by simp, by simp⟩ ?_ ?_
      · rintro i H4 hi ⟨ms, hd4, f4, e4, hl, ok⟩
        refine ⟨rfl, _, rfl, a, ld, _, rfl, hd4, by decide, by decide, fun d H5 d0 d1 hd5 f5 _ => ⟨rfl, _, rfl, ?_⟩⟩
        refine ite2 (fun _ => ?_) (fun _ => ?_)
        · refine ⟨_, rfl, _, f5 _ _ e4 nD, by rw [List.length_map]; exact small1000 (by omega), ms ++ [0 + (i : Int)], hd5.put nD mD, fun b o h n => by rw [upd_ne (ne_of_none h hD)]; exact f5 _ _ (f4 _ _ h n) n, by rw [upd_same, List.map_append]; rfl, by rw [List.length_append]; exact Nat.succ_le_succ hl, ?_⟩
          rw [Int.zero_add]
          refine ⟨List.pairwise_append.mpr ⟨ok.up, by simp, fun x hx y hy => by rw [List.mem_singleton.mp hy]; exact ok.hi x hx⟩, fun m hm => ?_, fun m hm => ?_⟩
          · rcases List.mem_append.mp hm with h | h
            · exact ok.lo m h
            · rw [List.mem_singleton.mp h]; omega
          · rcases List.mem_append.mp hm with h | h
            · have := ok.hi m h; omega
            · rw [List.mem_singleton.mp h]; omega
        · exact ⟨ms, hd5, f4.trans f5, f5 _ _ e4 nD, by omega, ok.le (by omega)⟩
      · rintro H4 ⟨ms, hd4, f4, e4, hl, ok⟩
        refine ⟨_, _, rfl, .inl ⟨SqL.of e4, fun l hl => ?_⟩⟩
        exact ⟨hd4.keep (Same.new hl), f4.trans (Fr.new hl), _, ms, ⟨l, rfl, upd_same⟩, by simpa using ok, rfl⟩
    rintro σ' H13 ⟨hd13, f13, more, mms, mm, mok, rfl⟩
    have t1213 := hd12.tfr f13
    have t1113 := (TFr.same s12).trans t1213
    have t813 := t811.trans t1113
    have I13 : S13 C pe ey es wv tv ev ws c oq ord tb esT H13 :=
      ⟨t813 _ _ ep8, Ents.keep t813 em8, Tup.keep t813 mw, Tup.keep (t911.trans t1113) m2, Tup.keep (t1011.trans t1113) me, f13 _ _ (s12 _ _ eo) nq, hbt.fr hd12 f13⟩
    have cp13 := t813 _ _ cp8
    have cm13 := cm8.keep t813
    clear hd12 hbt t1113 t813 t1213 f13 s12 t911 t1011 t811 eo hd11 f11 me hd10 f10 m2 hd9 s9 mw cp8 cm8 ep8 em8 tf8 f8 hd8 cp7 cm7 tf7 ep em f7 hd7 cp5 cm5 tf5 f5 hd5 cp cm hd3
    refine ⟨_, rfl, pc, cy, rfl, .inr (sqT cp13), fun l1 hl1 => ?_⟩
    have z1 : Same H13 (upd H13 l1 (.lst cy)) := Same.new hl1
    have e1 : (upd H13 l1 (.lst cy)) l1 = some (.lst cy) := upd_same
    generalize upd H13 l1 (.lst cy) = G1 at *
    refine ⟨_, rfl, (by show 1 ≤ sizeLine; decide), fun l2 hl2 => ?_⟩
    have z2 : Same G1 (upd G1 l2 (.lst [more])) := Same.new hl2
    have e2 : (upd G1 l2 (.lst [more])) l2 = some (.lst [more]) := upd_same
    generalize upd G1 l2 (.lst [more]) = G2 at *
    have cyl : cy.length ≤ 24 := by rw [Paired.length cm13]; exact cl
    refine ⟨l1, l2, cy, [more], rfl, rfl, z2 _ _ e1, e2, by show cy.length + 1 ≤ sizeLine; exact Nat.le_of_lt (small1000 (by omega)), fun L hL => ?_⟩
    have z3 : Same G2 (upd G2 L (.lst (cy ++ [more]))) := Same.new hL
    have e3 : (upd G2 L (.lst (cy ++ [more]))) L = some (.lst (cy ++ [more])) := upd_same
    generalize upd G2 L (.lst (cy ++ [more])) = G3 at *
    have z := (z1.trans z2).trans z3
    have I0 := I13.same z
    have hd0 := hd13.keep z
    have each : ∀ x ∈ cy ++ [more], ∃ ms, Xci.Mk G3 x ms ∧ MarksOk 6 ms := by
      intro x hx
      rcases List.mem_append.mp hx with h | h
      · obtain ⟨j, hj⟩ := List.getElem?_of_mem h
        obtain ⟨cc, hc, tc⟩ := Paired.get (cm13.keep (TFr.same z)) hj
        exact ⟨cc, tc, okc cc (List.mem_of_getElem? hc)⟩
      · rw [List.mem_singleton.mp h]
        exact ⟨mms, Tup.keep (TFr.same z) mm, mok⟩
    clear hL hl1 hl2 e1 e2 z1 z2 z3 I13 mm z hd13 cp13 cm13
    refine ⟨L, rfl, ⟨_, SqL.of e3⟩, for_list (K := K) (a := L) (xs := cy ++ [more]) (fun i σ H => Same G3 H ∧ ∃ v9 v13 v15 v16 v17 v18 : Option V, σ = [some (.ref sa), some (.ref a), w2, some (.int many), some (.ref pc), some (.int most), some (.ref pe), some wv, some tv, v9, some ev, some (.ref oq), some (.ref tb), v13, some more, v15, v16, v17, v18])
      ⟨Same.refl _, _, _, _, _, _, _, rfl⟩ (fun i σ H _ ⟨f, _⟩ => SqL.of (f _ _ e3)) ?_ (fun σ H ⟨s, v9, v13, v15, v16, v17, v18, e⟩ => ⟨hd0.keep s, _, _, _, _, _, _, _, _, _, _, _, _, _, _, _, _, _, e⟩)⟩
    clear v9 v13 v15 v16 v17 v18
    rintro j x σ H hx ⟨s0, v9, v13, v15, v16, v17, v18, rfl⟩
    obtain ⟨ms, mx0, mok⟩ := each x (List.mem_of_getElem? hx)
    have I := I0.same s0
    have mx : Xci.Mk H x ms := Tup.keep (TFr.same s0) mx0
    clear mx0
    have ww : ∀ {H' : Hp}, S13 C pe ey es wv tv ev ws c oq ord tb esT H' → WtIs H' "weights" wv ws := fun h => .inr ⟨rfl, h.mw, wl, wb⟩
    have qlen : ∀ man ws', ∀ l, lawRes (fitN es ms) (beatA man ws' es) = .qua l → l.length ≤ 1000 := fun man ws' l e => by
      have h1 := (lawRes_asc (fit_asc es ms) e).2
      have h2 := fitN_len es ms
      omega
    refine ⟨fun σ' H1 => Same H H1 ∧ ∃ due : V, ResAt H1 due (lawRes (fitN es ms) (beatA "weights" ws es)) ∧ σ' = [some (.ref sa), some (.ref a), w2, some (.int many), some (.ref pc), some (.int most), some (.ref pe), some wv, some tv, v9, some ev, some (.ref oq), some (.ref tb), v13, some more, v15, some x, some due, v18], ?_, ?_⟩
    · exact ⟨_, rfl, _, rfl, _, rfl, "weights", pe, wv, x, ey, ws, es, ms, rfl, .inr (.inl rfl), ww I, I.ep, I.em, eok, by omega, mx, fun u H1 tu s1 => ⟨s1, u, tu, rfl⟩⟩
    rintro σ' H1 ⟨s1, due, rdue, rfl⟩
    have I1 := I.same s1
    have mx1 := Tup.keep (TFr.same s1) mx
    refine ⟨fun σ' H2 => Same H1 H2 ∧ σ' = [some (.ref sa), some (.ref a), w2, some (.int many), some (.ref pc), some (.int most), some (.ref pe), some wv, some tv, v9, some ev, some (.ref oq), some (.ref tb), v13, some more, v15, some x, some due, v18], ?_, ?_⟩
    · refine ⟨_, rfl, _, rfl, ?_⟩
      refine fun bx dx nx ndx _ => made_book (ws := ws) nx ndx (.inr (.inr (.inl rfl))) (ww I1) I1.ep I1.em eok (by omega) fun G6 hb s6 => ⟨rfl, ?_⟩
      refine ⟨_, rfl, bx, x, "weights", ws, es, ms, rfl, hb, .inr (.inl rfl), Tup.keep (TFr.same s6) mx1, mok, fun u G7 ru s7 => ?_⟩
      have s67 := s6.trans s7
      refine ⟨_, rfl, u, due, _, rfl, ru, rdue.keep (TFr.same s67), qlen _ _, fun H3 s3 => ⟨_, rfl, ?_⟩⟩
      exact iteF ⟨s67.trans s3, rfl⟩
    rintro σ' H2 ⟨s2, rfl⟩
    have I2 := I1.same s2
    have mx2 := Tup.keep (TFr.same s2) mx1
    have rdue2 := rdue.keep (TFr.same s2)
    refine ⟨fun σ' H3 => Same H2 H3 ∧ σ' = [some (.ref sa), some (.ref a), w2, some (.int many), some (.ref pc), some (.int most), some (.ref pe), some wv, some tv, v9, some ev, some (.ref oq), some (.ref tb), v13, some more, v15, some x, some due, v18], ?_, ?_⟩
    · have e6 : (10 : Int) ^ (6 : Int).toNat = 1000000 := by decide
      obtain ⟨tp, etp, htp⟩ := I2.m2
      refine ⟨_, rfl, tp, _, by rw [etp], sqT htp, by rw [List.length_map, wl]; decide, fun m hm hle => ?_⟩
      refine ⟨_, _, rfl, rfl, ⟨by decide, by decide, by decide⟩, _, _, rfl, rfl, _, rfl, ?_⟩
      refine ite2 (fun hle6 => ?_) (fun _ => iteF ⟨Same.refl _, rfl⟩)
      have hle6 : m ≤ 1000000 := by
        have q := of_decide_eq_true hle6
        rw [e6] at q
        exact q
      have wt2 : WtIs H2 "weights" tv (ws.map (2 * ·)) := .inr ⟨rfl, I2.m2, by rw [List.length_map, wl], fun y hy => by
        have h1 := hle y hy
        obtain ⟨z, hz, rfl⟩ := List.mem_map.mp hy
        have := wb z hz
        omega⟩
      refine ⟨_, rfl, _, rfl, ?_⟩
      refine fun bx dx nx ndx _ => made_book (ws := ws.map (2 * ·)) nx ndx (.inr (.inr (.inl rfl))) wt2 I2.ep I2.em eok (by omega) fun G6 hb s6 => ⟨rfl, ?_⟩
      refine ⟨_, rfl, bx, x, "weights", ws.map (2 * ·), es, ms, rfl, hb, .inr (.inl rfl), Tup.keep (TFr.same s6) mx2, mok, fun u G7 ru s7 => ?_⟩
      have s67 := s6.trans s7
      have same2 : lawRes (fitN es ms) (beatA "weights" (ws.map (2 * ·)) es) = lawRes (fitN es ms) (beatA "weights" ws es) := lawRes_congr fun n _ o _ => beat_twice ws _ _
      rw [same2] at ru
      refine ⟨_, rfl, resD _, resD _, dp_res ru, dp_res (rdue2.keep (TFr.same s67)), sh_res _, sh_res _, _, rfl, ?_⟩
      rw [eqv_res]
      exact iteF ⟨s67, rfl⟩
    rintro σ' H3 ⟨s3, rfl⟩
    have I3 := I2.same s3
    have mx3 := Tup.keep (TFr.same s3) mx2
    have rdue3 := rdue2.keep (TFr.same s3)
    refine ⟨fun σ' H4 => Same H3 H4 ∧ ∃ other : V, ResAt H4 other (lawRes (fitN esT ms) (beatA "weights" ws esT)) ∧ σ' = [some (.ref sa), some (.ref a), w2, some (.int many), some (.ref pc), some (.int most), some (.ref pe), some wv, some tv, v9, some ev, some (.ref oq), some (.ref tb), v13, some more, v15, some x, some due, some other], ?_, ?_⟩
    · exact ⟨_, rfl, _, rfl, tb, x, "weights", ws, esT, ms, rfl, I3.tb, .inr (.inl rfl), mx3, mok, fun u H4 ru s4 => ⟨s4, u, ru, rfl⟩⟩
    rintro σ' H4 ⟨s4, other, roth, rfl⟩
    have I4 := I3.same s4
    have mx4 := Tup.keep (TFr.same s4) mx3
    have rdue4 := rdue3.keep (TFr.same s4)
    have tn := PK.turned po "weights" ws ms
    have asc : ∀ l, lawRes (fitN es ms) (beatA "weights" ws es) = .qua l → l.Pairwise (· < ·) := fun l e => (lawRes_asc (fit_asc es ms) e).1
    have ltT : ∀ l, lawRes (fitN esT ms) (beatA "weights" ws esT) = .qua l → l.length ≤ 40 ∧ ∀ j ∈ l, j < ord.length := fun l e => by
      have e' := e
      unfold lawRes at e'
      split at e'
      · cases e'
      · split at e'
        · cases e'
        · obtain rfl := Res.qua.inj e'
          refine ⟨Nat.le_trans (List.length_filter_le _ _) (Nat.le_trans (fitN_len esT ms) (by rw [PK.len]; omega)), fun j hj => ?_⟩
          rw [← PK.len]
          exact fit_lt j (List.mem_filter.mp hj).1
    have ltE : ∀ j, lawRes (fitN esT ms) (beatA "weights" ws esT) = .ent j → j < ord.length := fun j e => by
      rcases lawRes_cases (beatA_ok "weights" ws esT) (fit_nd esT ms) with ⟨_, r⟩ | ⟨n, hn, r⟩ | ⟨_, _, r⟩
      · rw [r] at e; cases e
      · rw [r] at e
        obtain rfl := Res.ent.inj e
        rw [← PK.len]
        exact fit_lt n hn.1
      · rw [r] at e; cases e
    have oat : ∀ j, j < ord.length → ((nat2 ord).map V.int)[j]? = some (.int ((gOf ord j : Nat) : Int)) := fun j hj => by
      have q : ord[j]? = some ord[j] := List.getElem?_eq_getElem hj
      unfold nat2
      rw [List.getElem?_map, List.getElem?_map, q, gOf_at q]
      rfl
    generalize hR : lawRes (fitN es ms) (beatA "weights" ws es) = R at *
    generalize hR' : lawRes (fitN esT ms) (beatA "weights" ws esT) = R' at *
    refine ⟨fun σ' H5 => Same H4 H5 ∧ σ' = [some (.ref sa), some (.ref a), w2, some (.int many), some (.ref pc), some (.int most), some (.ref pe), some wv, some tv, v9, some ev, some (.ref oq), some (.ref tb), v13, some more, v15, some x, some due, some other], ?_, ?_⟩
    · cases tn with
      | none =>
        obtain ⟨d1, rfl, hd1⟩ := rdue4
        obtain ⟨o1, rfl, ho1⟩ := roth
        refine ⟨_, rfl, o1, _, _, _, rfl, rfl, sqT ho1, at_of (j := 0) rfl rfl, _, rfl, d1, _, _, _, rfl, rfl, sqT hd1, at_of (j := 0) rfl rfl, rfl, _, rfl, ?_⟩
        refine iteF ?_
        refine ⟨_, rfl, d1, _, _, _, rfl, rfl, sqT hd1, at_of (j := 0) rfl rfl, rfl, _, rfl, ?_⟩
        have n1 : decide (V.str "none" = V.str "entry") = false := by decide +kernel
        rw [n1]
        exact iteF (iteF ⟨Same.refl _, rfl⟩)
      | ent j0 =>
        obtain ⟨d1, rfl, hd1⟩ := rdue4
        obtain ⟨o1, rfl, ho1⟩ := roth
        refine ⟨_, rfl, o1, _, _, _, rfl, rfl, sqT ho1, at_of (j := 0) rfl rfl, _, rfl, d1, _, _, _, rfl, rfl, sqT hd1, at_of (j := 0) rfl rfl, rfl, _, rfl, ?_⟩
        refine iteF ?_
        refine ⟨_, rfl, d1, _, _, _, rfl, rfl, sqT hd1, at_of (j := 0) rfl rfl, rfl, _, rfl, ?_⟩
        refine iteT ?_
        refine ⟨_, rfl, _, rfl, o1, _, _, _, rfl, rfl, sqT ho1, at_of (j := 1) rfl rfl, oq, _, _, _, rfl, rfl, SqL.of I4.oq, at_of (j := j0) rfl (oat j0 (ltE j0 rfl)), _, rfl, d1, _, _, _, rfl, rfl, sqT hd1, at_of (j := 1) rfl rfl, rfl, _, rfl, ?_⟩
        have n1 : (!decide (V.int ((gOf ord j0 : Nat) : Int) = V.int ((gOf ord j0 : Nat) : Int))) = false := by rw [decide_eq_true rfl]; rfl
        rw [n1]
        exact iteF ⟨Same.refl _, rfl⟩
      | qua l' l pm =>
        obtain ⟨dt, ⟨d1, rfl, hd1⟩, hdt⟩ := rdue4
        obtain ⟨ot, ⟨o1, rfl, ho1⟩, hot⟩ := roth
        refine ⟨_, rfl, o1, _, _, _, rfl, rfl, sqT ho1, at_of (j := 0) rfl rfl, _, rfl, d1, _, _, _, rfl, rfl, sqT hd1, at_of (j := 0) rfl rfl, rfl, _, rfl, ?_⟩
        refine iteF ?_
        refine ⟨_, rfl, d1, _, _, _, rfl, rfl, sqT hd1, at_of (j := 0) rfl rfl, rfl, _, rfl, ?_⟩
        have n1 : decide (V.str "quarrel" = V.str "entry") = false := by decide +kernel
        rw [n1]
        exact iteF (iteF ⟨Same.refl _, rfl⟩)
    rintro σ' H5 ⟨s5, rfl⟩
    have I5 := I4.same s5
    have mx5 := Tup.keep (TFr.same s5) mx4
    have rdue5 := rdue4.keep (TFr.same s5)
    have roth5 := roth.keep (TFr.same s5)
    refine ⟨fun σ' H6 => Same H5 H6 ∧ σ' = [some (.ref sa), some (.ref a), w2, some (.int many), some (.ref pc), some (.int most), some (.ref pe), some wv, some tv, v9, some ev, some (.ref oq), some (.ref tb), v13, some more, v15, some x, some due, some other], ?_, ?_⟩
    · cases tn with
      | none =>
        obtain ⟨d1, rfl, hd1⟩ := rdue5
        refine ⟨_, rfl, d1, _, _, _, rfl, rfl, sqT hd1, at_of (j := 0) rfl rfl, rfl, _, rfl, ?_⟩
        have n1 : decide (V.str "none" = V.str "quarrel") = false := by decide +kernel
        rw [n1]
        exact iteF (iteF ⟨Same.refl _, rfl⟩)
      | ent j0 =>
        obtain ⟨d1, rfl, hd1⟩ := rdue5
        refine ⟨_, rfl, d1, _, _, _, rfl, rfl, sqT hd1, at_of (j := 0) rfl rfl, rfl, _, rfl, ?_⟩
        have n1 : decide (V.str "entry" = V.str "quarrel") = false := by decide +kernel
        rw [n1]
        exact iteF (iteF ⟨Same.refl _, rfl⟩)
      | qua l' l pm =>
        obtain ⟨dt, ⟨d1, rfl, hd1⟩, hdt⟩ := rdue5
        obtain ⟨ot, ⟨o1, rfl, ho1⟩, hot⟩ := roth5
        obtain ⟨ll', lt'⟩ := ltT l' rfl
        refine ⟨_, rfl, d1, _, _, _, rfl, rfl, sqT hd1, at_of (j := 0) rfl rfl, rfl, _, rfl, ?_⟩
        refine iteT ?_
        refine ⟨_, rfl, o1, _, _, _, rfl, rfl, sqT ho1, at_of (j := 1) rfl rfl, ot, rfl, ⟨_, sqT hot⟩, fun D hD => ?_⟩
        refine lc_tup (K := K) (a := ot) (xs := (nat2 l').map V.int) (fun i H6 => Same H5 H6 ∧ H6 D = some (.lst ((nat2 ((l'.take i).map (gOf ord))).map V.int))) ⟨Same.new hD, upd_same⟩ (fun i H6 _ ⟨s6, _⟩ => sqT (s6 _ _ hot)) ?_ ?_
        · rintro i y H6 hi ⟨sm, e6⟩
          obtain ⟨n, hn, rfl⟩ := num_of hi
          have hi2 := (List.getElem?_eq_some_iff.mp hn).1
          refine ⟨rfl, _, rfl, _, rfl, oq, _, _, _, rfl, rfl, SqL.of (sm _ _ I5.oq), at_of (j := n) rfl (oat n (lt' n (List.mem_of_getElem? hn))), ?_⟩
          refine ⟨_, e6, by rw [List.length_map, nat2_len, List.length_map, List.length_take]; exact small1000 (by omega), fun b o h => by rw [upd_ne (ne_of_none h hD)]; exact sm b o h, ?_⟩
          rw [upd_same, take_map hn, nat2_app, List.map_append]
          rfl
        · rintro H6 ⟨sm, e6⟩
          rw [List.length_map, nat2_len, List.take_length] at e6
          refine ⟨D, _, rfl, SqL.of e6, fun ns' p pm' srt hp => ?_⟩
          have eqs : ns' = nat2 l := sorted_one (pm'.trans (nat2_perm pm)) srt (nat2_asc (asc l rfl))
          subst eqs
          have q7 : Same H6 (upd H6 p (.lst ((nat2 l).map V.int))) := Same.new hp
          have ep7 : (upd H6 p (.lst ((nat2 l).map V.int))) p = some (.lst ((nat2 l).map V.int)) := upd_same
          generalize upd H6 p (.lst ((nat2 l).map V.int)) = H7 at *
          have s57 := sm.trans q7
          refine ⟨_, rfl, d1, _, _, _, rfl, rfl, sqT (s57 _ _ hd1), at_of (j := 1) rfl rfl, dt, _, rfl, .inr (sqT (s57 _ _ hdt)), fun p2 hp2 => ?_⟩
          have q8 : Same H7 (upd H7 p2 (.lst ((nat2 l).map V.int))) := Same.new hp2
          refine ⟨_, _, dp_list (q8 _ _ ep7), dp_list upd_same, sh_ints _, sh_ints _, _, rfl, ?_⟩
          have ee : PyData.eqv (.list ((nat2 l).map PyData.int)) (.list ((nat2 l).map PyData.int)) = true := by
            have := eqv_ints (nat2 l)
            simp [PyData.eqv, this]
          rw [ee]
          exact iteF ⟨s57.trans q8, rfl⟩
    rintro σ' H6 ⟨s6, rfl⟩
    have I6 := I5.same s6
    have mx6 := Tup.keep (TFr.same s6) mx5
    have s06 := ((((s0.trans s1).trans s2).trans s3).trans s4).trans (s5.trans s6)
    refine ⟨fun σ' H7 => Same H6 H7 ∧ ∃ due : V, ResAt H7 due (lawRes (fitN es ms) (beatA "most" [] es)) ∧ σ' = [some (.ref sa), some (.ref a), w2, some (.int many), some (.ref pc), some (.int most), some (.ref pe), some wv, some tv, v9, some ev, some (.ref oq), some (.ref tb), v13, some more, v15, some x, some due, some other], ?_, ?_⟩
    · exact ⟨_, rfl, _, rfl, "most", pe, .non, x, ey, [], es, ms, rfl, .inr (.inr rfl), .inl ⟨n_mostw, rfl⟩, I6.ep, I6.em, eok, by omega, mx6, fun u H1 tu s1 => ⟨s1, u, tu, rfl⟩⟩
    rintro σ' H7 ⟨s7, due2, rd7, rfl⟩
    have I7 := I6.same s7
    have mx7 := Tup.keep (TFr.same s7) mx6
    refine ⟨fun σ' H8 => Same H7 H8 ∧ σ' = [some (.ref sa), some (.ref a), w2, some (.int many), some (.ref pc), some (.int most), some (.ref pe), some wv, some tv, v9, some ev, some (.ref oq), some (.ref tb), v13, some more, v15, some x, some due2, some other], ?_, ?_⟩
    · refine ⟨_, rfl, ?_⟩
      refine fun bx dx nx ndx _ => made_book (ws := []) nx ndx (.inr (.inr (.inr rfl))) (.inl ⟨n_mostw, rfl⟩) I7.ep I7.em eok (by omega) fun G6 hb s6 => ⟨rfl, ?_⟩
      refine ⟨_, rfl, bx, x, "most", [], es, ms, rfl, hb, .inr (.inr rfl), Tup.keep (TFr.same s6) mx7, mok, fun u G7 ru s7 => ?_⟩
      have s67 := s6.trans s7
      refine ⟨_, rfl, u, due2, _, rfl, ru, rd7.keep (TFr.same s67), qlen _ _, fun H3 s3 => ⟨_, rfl, ?_⟩⟩
      exact iteF ⟨s67.trans s3, rfl⟩
    rintro σ' H8 ⟨s8, rfl⟩
    have I8 := I7.same s8
    have mx8 := Tup.keep (TFr.same s8) mx7
    have rd8 := rd7.keep (TFr.same s8)
    have wte : WtIs H8 "weights" ev (List.replicate 6 c) := .inr ⟨rfl, I8.me, by rw [List.length_replicate], fun y hy => by
      have := List.eq_of_mem_replicate hy
      omega⟩
    refine ⟨_, rfl, _, rfl, ?_⟩
    refine fun bx dx nx ndx _ => made_book (ws := List.replicate 6 c) nx ndx (.inr (.inr (.inl rfl))) wte I8.ep I8.em eok (by omega) fun G6 hb s9 => ⟨rfl, ?_⟩
    refine ⟨_, rfl, bx, x, "weights", List.replicate 6 c, es, ms, rfl, hb, .inr (.inl rfl), Tup.keep (TFr.same s9) mx8, mok, fun u G7 ru s10 => ?_⟩
    have s67 := s9.trans s10
    have same2 : lawRes (fitN es ms) (beatA "weights" (List.replicate 6 c) es) = lawRes (fitN es ms) (beatA "most" [] es) := lawRes_congr fun n _ o _ => beat_even c1 (mkA_ok eok n) (mkA_ok eok o)
    rw [same2] at ru
    refine ⟨_, rfl, resD _, resD _, dp_res ru, dp_res (rd8.keep (TFr.same s67)), sh_res _, sh_res _, _, rfl, ?_⟩
    rw [eqv_res]
    exact iteF ⟨s06.trans ((s7.trans s8).trans s67), _, _, _, _, _, _, rfl⟩
end
end Xci

namespace Xci
open PySem L2
set_option maxHeartbeats 4000000 in
theorem all_mk {l : PySem.W.OpenLaw} {w : World} {K : PySem.W.Frag} {h : Heap} {mg : Str → Option Value} {fa f0 f1 f2 f3 f4 f5 f6 f7 f8 f9 f10 f11 f12 f13 f14 f15 f16 f17 f18 f19 f20 f21 f22 f23 f24 f25 f26 f27 f28 f29 f30 f31 f32 f33 f34 C aM : Addr} (X : K.In h) (G : h.Ns mainGlobals mg) (hfa : mg "law" = some (.ref fa))
    {od0 an0 od1 an1 od2 an2 od3 an3 od4 an4 od5 an5 od6 an6 od7 an7 od8 an8 od9 an9 od10 an10 od11 an11 od12 an12 od13 an13 od14 an14 od15 an15 od16 an16 od17 an17 od18 an18 od19 an19 od20 an20 od21 an21 od22 an22 od23 an23 od24 an24 od25 an25 od26 an26 od27 an27 od28 an28 od29 an29 od30 an30 od31 an31 od32 an32 od33 an33 od34 an34 odM : Option Addr} {sl0 sl1 sl2 sl3 sl4 sl5 sl6 sl7 sl8 sl9 sl10 sl11 sl12 sl13 sl14 sl15 sl16 sl17 sl18 sl19 sl20 sl21 sl22 sl23 sl24 sl25 sl26 sl27 sl28 sl29 sl30 sl31 sl32 sl33 sl34 slM : Array (Option Value)} {oc0 kV0 dc0 pm0 cd0 ct0 oc1 kV1 dc1 pm1 cd1 ct1 oc2 kV2 dc2 pm2 cd2 ct2 oc3 kV3 dc3 pm3 cd3 ct3 oc4 kV4 dc4 pm4 cd4 ct4 oc5 kV5 dc5 pm5 cd5 ct5 oc6 kV6 dc6 pm6 cd6 ct6 oc7 kV7 dc7 pm7 cd7 ct7 oc8 kV8 dc8 pm8 cd8 ct8 oc9 kV9 dc9 pm9 cd9 ct9 oc10 kV10 dc10 pm10 cd10 ct10 oc11 kV11 dc11 pm11 cd11 ct11 oc12 kV12 dc12 pm12 cd12 ct12 oc13 kV13 dc13 pm13 cd13 ct13 oc14 kV14 dc14 pm14 cd14 ct14 oc15 kV15 dc15 pm15 cd15 ct15 oc16 kV16 dc16 pm16 cd16 ct16 oc17 kV17 dc17 pm17 cd17 ct17 oc18 kV18 dc18 pm18 cd18 ct18 oc19 kV19 dc19 pm19 cd19 ct19 oc20 kV20 dc20 pm20 cd20 ct20 oc21 kV21 dc21 pm21 cd21 ct21 oc22 kV22 dc22 pm22 cd22 ct22 oc23 kV23 dc23 pm23 cd23 ct23 oc24 kV24 dc24 pm24 cd24 ct24 oc25 kV25 dc25 pm25 cd25 ct25 oc26 kV26 dc26 pm26 cd26 ct26 oc27 kV27 dc27 pm27 cd27 ct27 oc28 kV28 dc28 pm28 cd28 ct28 oc29 kV29 dc29 pm29 cd29 ct29 oc30 kV30 dc30 pm30 cd30 ct30 oc31 kV31 dc31 pm31 cd31 ct31 oc32 kV32 dc32 pm32 cd32 ct32 oc33 kV33 dc33 pm33 cd33 ct33 oc34 kV34 dc34 pm34 cd34 ct34 : Value} {u0 u1 u2 u3 w0 w1 w2 w3 : Tok} {nM : Nat}
    (a0 : PySem.W.nsIn K mainGlobals "is_integer" = some (some (.ref f0))) (l0 : K.lookup f0 = some ⟨oc0, od0, .func (PySem.W.fnOf "is_integer" "is_integer" (defArgs sIsInteger) (defBody sIsInteger) (defScope sIsInteger) .none kV0 dc0 pm0 an0 cd0 ct0), sl0⟩) (c0 : PySem.W.codeIn K cd0 "is_integer" = true) (k0 : PySem.W.keepIn K (.ref f0) = true)
    (a1 : PySem.W.nsIn K mainGlobals "is_between" = some (some (.ref f1))) (l1 : K.lookup f1 = some ⟨oc1, od1, .func (PySem.W.fnOf "is_between" "is_between" (defArgs sIsBetween) (defBody sIsBetween) (defScope sIsBetween) .none kV1 dc1 pm1 an1 cd1 ct1), sl1⟩) (c1 : PySem.W.codeIn K cd1 "is_between" = true) (k1 : PySem.W.keepIn K (.ref f1) = true)
    (a2 : PySem.W.nsIn K mainGlobals "is_cell" = some (some (.ref f2))) (l2 : K.lookup f2 = some ⟨oc2, od2, .func (PySem.W.fnOf "is_cell" "is_cell" (defArgs sIsCell) (defBody sIsCell) (defScope sIsCell) .none kV2 dc2 pm2 an2 cd2 ct2), sl2⟩) (c2 : PySem.W.codeIn K cd2 "is_cell" = true) (k2 : PySem.W.keepIn K (.ref f2) = true)
    (a3 : PySem.W.nsIn K mainGlobals "is_form" = some (some (.ref f3))) (l3 : K.lookup f3 = some ⟨oc3, od3, .func (PySem.W.fnOf "is_form" "is_form" (defArgs sIsForm) (defBody sIsForm) (defScope sIsForm) .none kV3 dc3 pm3 an3 cd3 ct3), sl3⟩) (c3 : PySem.W.codeIn K cd3 "is_form" = true) (k3 : PySem.W.keepIn K (.ref f3) = true)
    (a4 : PySem.W.nsIn K mainGlobals "lies_within" = some (some (.ref f4))) (l4 : K.lookup f4 = some ⟨oc4, od4, .func (PySem.W.fnOf "lies_within" "lies_within" (defArgs sLiesWithin) (defBody sLiesWithin) (defScope sLiesWithin) .none kV4 dc4 pm4 an4 cd4 ct4), sl4⟩) (c4 : PySem.W.codeIn K cd4 "lies_within" = true) (k4 : PySem.W.keepIn K (.ref f4) = true)
    (a5 : PySem.W.nsIn K mainGlobals "is_entry" = some (some (.ref f5))) (l5 : K.lookup f5 = some ⟨oc5, od5, .func (PySem.W.fnOf "is_entry" "is_entry" (defArgs sIsEntry) (defBody sIsEntry) (defScope sIsEntry) .none kV5 dc5 pm5 an5 cd5 ct5), sl5⟩) (c5 : PySem.W.codeIn K cd5 "is_entry" = true) (k5 : PySem.W.keepIn K (.ref f5) = true)
    (a6 : PySem.W.nsIn K mainGlobals "_are_entries" = some (some (.ref f6))) (l6 : K.lookup f6 = some ⟨oc6, od6, .func (PySem.W.fnOf "_are_entries" "_are_entries" (defArgs sAreEntries) (defBody sAreEntries) (defScope sAreEntries) .none kV6 dc6 pm6 an6 cd6 ct6), sl6⟩) (c6 : PySem.W.codeIn K cd6 "_are_entries" = true) (k6 : PySem.W.keepIn K (.ref f6) = true)
    (a7 : PySem.W.nsIn K mainGlobals "_are_weights" = some (some (.ref f7))) (l7 : K.lookup f7 = some ⟨oc7, od7, .func (PySem.W.fnOf "_are_weights" "_are_weights" (defArgs sAreWeights) (defBody sAreWeights) (defScope sAreWeights) .none kV7 dc7 pm7 an7 cd7 ct7), sl7⟩) (c7 : PySem.W.codeIn K cd7 "_are_weights" = true) (k7 : PySem.W.keepIn K (.ref f7) = true)
    (a8 : PySem.W.nsIn K mainGlobals "fitting" = some (some (.ref f8))) (l8 : K.lookup f8 = some ⟨oc8, od8, .func (PySem.W.fnOf "fitting" "fitting" (defArgs sFitting) (defBody sFitting) (defScope sFitting) .none kV8 dc8 pm8 an8 cd8 ct8), sl8⟩) (c8 : PySem.W.codeIn K cd8 "fitting" = true) (k8 : PySem.W.keepIn K (.ref f8) = true)
    (a9 : PySem.W.nsIn K mainGlobals "rank" = some (some (.ref f9))) (l9 : K.lookup f9 = some ⟨oc9, od9, .func (PySem.W.fnOf "rank" "rank" (defArgs sRank) (defBody sRank) (defScope sRank) .none kV9 dc9 pm9 an9 cd9 ct9), sl9⟩) (c9 : PySem.W.codeIn K cd9 "rank" = true) (k9 : PySem.W.keepIn K (.ref f9) = true)
    (a10 : PySem.W.nsIn K mainGlobals "_highest" = some (some (.ref f10))) (l10 : K.lookup f10 = some ⟨oc10, od10, .func (PySem.W.fnOf "_highest" "_highest" (defArgs sHighest) (defBody sHighest) (defScope sHighest) .none kV10 dc10 pm10 an10 cd10 ct10), sl10⟩) (c10 : PySem.W.codeIn K cd10 "_highest" = true) (k10 : PySem.W.keepIn K (.ref f10) = true)
    (a11 : PySem.W.nsIn K mainGlobals "speaking" = some (some (.ref f11))) (l11 : K.lookup f11 = some ⟨oc11, od11, .func (PySem.W.fnOf "speaking" "speaking" (defArgs sSpeaking) (defBody sSpeaking) (defScope sSpeaking) .none kV11 dc11 pm11 an11 cd11 ct11), sl11⟩) (c11 : PySem.W.codeIn K cd11 "speaking" = true) (k11 : PySem.W.keepIn K (.ref f11) = true)
    (a12 : PySem.W.nsIn K mainGlobals "_holds_all" = some (some (.ref f12))) (l12 : K.lookup f12 = some ⟨oc12, od12, .func (PySem.W.fnOf "_holds_all" "_holds_all" (defArgs sHoldsAll) (defBody sHoldsAll) (defScope sHoldsAll) .none kV12 dc12 pm12 an12 cd12 ct12), sl12⟩) (c12 : PySem.W.codeIn K cd12 "_holds_all" = true) (k12 : PySem.W.keepIn K (.ref f12) = true)
    (a13 : PySem.W.nsIn K mainGlobals "_in_quarrel" = some (some (.ref f13))) (l13 : K.lookup f13 = some ⟨oc13, od13, .func (PySem.W.fnOf "_in_quarrel" "_in_quarrel" (defArgs sInQuarrel) (defBody sInQuarrel) (defScope sInQuarrel) .none kV13 dc13 pm13 an13 cd13 ct13), sl13⟩) (c13 : PySem.W.codeIn K cd13 "_in_quarrel" = true) (k13 : PySem.W.keepIn K (.ref f13) = true)
    (a14 : PySem.W.nsIn K mainGlobals "_is_outdone" = some (some (.ref f14))) (l14 : K.lookup f14 = some ⟨oc14, od14, .func (PySem.W.fnOf "_is_outdone" "_is_outdone" (defArgs sIsOutdone) (defBody sIsOutdone) (defScope sIsOutdone) .none kV14 dc14 pm14 an14 cd14 ct14), sl14⟩) (c14 : PySem.W.codeIn K cd14 "_is_outdone" = true) (k14 : PySem.W.keepIn K (.ref f14) = true)
    (a15 : PySem.W.nsIn K mainGlobals "speaker" = some (some (.ref f15))) (l15 : K.lookup f15 = some ⟨oc15, od15, .func (PySem.W.fnOf "speaker" "speaker" (defArgs sSpeaker) (defBody sSpeaker) (defScope sSpeaker) .none kV15 dc15 pm15 an15 cd15 ct15), sl15⟩) (c15 : PySem.W.codeIn K cd15 "speaker" = true) (k15 : PySem.W.keepIn K (.ref f15) = true)
    (a16 : PySem.W.nsIn K mainGlobals "_law_deck" = some (some (.ref f16))) (l16 : K.lookup f16 = some ⟨oc16, od16, .func (PySem.W.fnOf "_law_deck" "_law_deck" (defArgs sLawDeck) (defBody sLawDeck) (defScope sLawDeck) .none kV16 dc16 pm16 an16 cd16 ct16), sl16⟩) (c16 : PySem.W.codeIn K cd16 "_law_deck" = true) (k16 : PySem.W.keepIn K (.ref f16) = true)
    (a17 : PySem.W.nsIn K mainGlobals "_law_take" = some (some (.ref f17))) (l17 : K.lookup f17 = some ⟨oc17, od17, .func (PySem.W.fnOf "_law_take" "_law_take" (defArgs sLawTake) (defBody sLawTake) (defScope sLawTake) .none kV17 dc17 pm17 an17 cd17 ct17), sl17⟩) (c17 : PySem.W.codeIn K cd17 "_law_take" = true) (k17 : PySem.W.keepIn K (.ref f17) = true)
    (a18 : PySem.W.nsIn K mainGlobals "_law_mixed" = some (some (.ref f18))) (l18 : K.lookup f18 = some ⟨oc18, od18, .func (PySem.W.fnOf "_law_mixed" "_law_mixed" (defArgs sLawMixed) (defBody sLawMixed) (defScope sLawMixed) .none kV18 dc18 pm18 an18 cd18 ct18), sl18⟩) (c18 : PySem.W.codeIn K cd18 "_law_mixed" = true) (k18 : PySem.W.keepIn K (.ref f18) = true)
    (a19 : PySem.W.nsIn K mainGlobals "_law_word" = some (some (.ref f19))) (l19 : K.lookup f19 = some ⟨oc19, od19, .func (PySem.W.fnOf "_law_word" "_law_word" (defArgs sLawWord) (defBody sLawWord) (defScope sLawWord) .none kV19 dc19 pm19 an19 cd19 ct19), sl19⟩) (c19 : PySem.W.codeIn K cd19 "_law_word" = true) (k19 : PySem.W.keepIn K (.ref f19) = true)
    (a20 : PySem.W.nsIn K mainGlobals "_law_words" = some (some (.ref f20))) (l20 : K.lookup f20 = some ⟨oc20, od20, .func (PySem.W.fnOf "_law_words" "_law_words" (defArgs sLawWords) (defBody sLawWords) (defScope sLawWords) .none kV20 dc20 pm20 an20 cd20 ct20), sl20⟩) (c20 : PySem.W.codeIn K cd20 "_law_words" = true) (k20 : PySem.W.keepIn K (.ref f20) = true)
    (a21 : PySem.W.nsIn K mainGlobals "_law_lots" = some (some (.ref f21))) (l21 : K.lookup f21 = some ⟨oc21, od21, .func (PySem.W.fnOf "_law_lots" "_law_lots" (defArgs sLawLots) (defBody sLawLots) (defScope sLawLots) .none kV21 dc21 pm21 an21 cd21 ct21), sl21⟩) (c21 : PySem.W.codeIn K cd21 "_law_lots" = true) (k21 : PySem.W.keepIn K (.ref f21) = true)
    (a22 : PySem.W.nsIn K mainGlobals "_law_family" = some (some (.ref f22))) (l22 : K.lookup f22 = some ⟨oc22, od22, .func (PySem.W.fnOf "_law_family" "_law_family" (defArgs sLawFamily) (defBody sLawFamily) (defScope sLawFamily) .none kV22 dc22 pm22 an22 cd22 ct22), sl22⟩) (c22 : PySem.W.codeIn K cd22 "_law_family" = true) (k22 : PySem.W.keepIn K (.ref f22) = true)
    (a23 : PySem.W.nsIn K mainGlobals "_law_in" = some (some (.ref f23))) (l23 : K.lookup f23 = some ⟨oc23, od23, .func (PySem.W.fnOf "_law_in" "_law_in" (defArgs sLawIn) (defBody sLawIn) (defScope sLawIn) .none kV23 dc23 pm23 an23 cd23 ct23), sl23⟩) (c23 : PySem.W.codeIn K cd23 "_law_in" = true) (k23 : PySem.W.keepIn K (.ref f23) = true)
    (a24 : PySem.W.nsIn K mainGlobals "_law_proper" = some (some (.ref f24))) (l24 : K.lookup f24 = some ⟨oc24, od24, .func (PySem.W.fnOf "_law_proper" "_law_proper" (defArgs sLawProper) (defBody sLawProper) (defScope sLawProper) .none kV24 dc24 pm24 an24 cd24 ct24), sl24⟩) (c24 : PySem.W.codeIn K cd24 "_law_proper" = true) (k24 : PySem.W.keepIn K (.ref f24) = true)
    (a25 : PySem.W.nsIn K mainGlobals "_law_marks" = some (some (.ref f25))) (l25 : K.lookup f25 = some ⟨oc25, od25, .func (PySem.W.fnOf "_law_marks" "_law_marks" (defArgs sLawMarks) (defBody sLawMarks) (defScope sLawMarks) .none kV25 dc25 pm25 an25 cd25 ct25), sl25⟩) (c25 : PySem.W.codeIn K cd25 "_law_marks" = true) (k25 : PySem.W.keepIn K (.ref f25) = true)
    (a26 : PySem.W.nsIn K mainGlobals "_law_entries" = some (some (.ref f26))) (l26 : K.lookup f26 = some ⟨oc26, od26, .func (PySem.W.fnOf "_law_entries" "_law_entries" (defArgs sLawEntries) (defBody sLawEntries) (defScope sLawEntries) .none kV26 dc26 pm26 an26 cd26 ct26), sl26⟩) (c26 : PySem.W.codeIn K cd26 "_law_entries" = true) (k26 : PySem.W.keepIn K (.ref f26) = true)
    (a27 : PySem.W.nsIn K mainGlobals "_law_weights" = some (some (.ref f27))) (l27 : K.lookup f27 = some ⟨oc27, od27, .func (PySem.W.fnOf "_law_weights" "_law_weights" (defArgs sLawWeights) (defBody sLawWeights) (defScope sLawWeights) .none kV27 dc27 pm27 an27 cd27 ct27), sl27⟩) (c27 : PySem.W.codeIn K cd27 "_law_weights" = true) (k27 : PySem.W.keepIn K (.ref f27) = true)
    (a28 : PySem.W.nsIn K mainGlobals "_law_sum" = some (some (.ref f28))) (l28 : K.lookup f28 = some ⟨oc28, od28, .func (PySem.W.fnOf "_law_sum" "_law_sum" (defArgs sLawSum) (defBody sLawSum) (defScope sLawSum) .none kV28 dc28 pm28 an28 cd28 ct28), sl28⟩) (c28 : PySem.W.codeIn K cd28 "_law_sum" = true) (k28 : PySem.W.keepIn K (.ref f28) = true)
    (a29 : PySem.W.nsIn K mainGlobals "_law_fits" = some (some (.ref f29))) (l29 : K.lookup f29 = some ⟨oc29, od29, .func (PySem.W.fnOf "_law_fits" "_law_fits" (defArgs sLawFits) (defBody sLawFits) (defScope sLawFits) .none kV29 dc29 pm29 an29 cd29 ct29), sl29⟩) (c29 : PySem.W.codeIn K cd29 "_law_fits" = true) (k29 : PySem.W.keepIn K (.ref f29) = true)
    (a30 : PySem.W.nsIn K mainGlobals "_law_beats" = some (some (.ref f30))) (l30 : K.lookup f30 = some ⟨oc30, od30, .func (PySem.W.fnOf "_law_beats" "_law_beats" (defArgs sLawBeats) (defBody sLawBeats) (defScope sLawBeats) .none kV30 dc30 pm30 an30 cd30 ct30), sl30⟩) (c30 : PySem.W.codeIn K cd30 "_law_beats" = true) (k30 : PySem.W.keepIn K (.ref f30) = true)
    (a31 : PySem.W.nsIn K mainGlobals "_law_speaks" = some (some (.ref f31))) (l31 : K.lookup f31 = some ⟨oc31, od31, .func (PySem.W.fnOf "_law_speaks" "_law_speaks" (defArgs sLawSpeaks) (defBody sLawSpeaks) (defScope sLawSpeaks) .none kV31 dc31 pm31 an31 cd31 ct31), sl31⟩) (c31 : PySem.W.codeIn K cd31 "_law_speaks" = true) (k31 : PySem.W.keepIn K (.ref f31) = true)
    (a32 : PySem.W.nsIn K mainGlobals "_law_like" = some (some (.ref f32))) (l32 : K.lookup f32 = some ⟨oc32, od32, .func (PySem.W.fnOf "_law_like" "_law_like" (defArgs sLawLike) (defBody sLawLike) (defScope sLawLike) .none kV32 dc32 pm32 an32 cd32 ct32), sl32⟩) (c32 : PySem.W.codeIn K cd32 "_law_like" = true) (k32 : PySem.W.keepIn K (.ref f32) = true)
    (a33 : PySem.W.nsIn K mainGlobals "law" = some (some (.ref f33))) (l33 : K.lookup f33 = some ⟨oc33, od33, .func (PySem.W.fnOf "law" "law" (defArgs sLaw) (defBody sLaw) (defScope sLaw) .none kV33 dc33 pm33 an33 cd33 ct33), sl33⟩) (c33 : PySem.W.codeIn K cd33 "law" = true) (k33 : PySem.W.keepIn K (.ref f33) = true)
    (a34 : PySem.W.findIn K (.ref C) "__init__" = some (some (.ref f34))) (i34 : PySem.W.isFn K (.ref f34) = true) (l34 : K.lookup f34 = some ⟨oc34, od34, .func (PySem.W.fnOf "__init__" "Book.__init__" (defArgs sBookInit) (defBody sBookInit) (defScope sBookInit) .none kV34 dc34 pm34 an34 cd34 ct34), sl34⟩) (c34 : PySem.W.codeIn K cd34 "Book.__init__" = true) (k34 : PySem.W.keepIn K (.ref f34) = true)
    (aC : PySem.W.nsIn K mainGlobals "Book" = some (some (.ref C))) (pgC : PySem.W.plainGet K C Str.empty = true) (hdC : PySem.W.hasDictIn K C = true) (poC : PySem.W.plainOver K C = true) (saC : PySem.W.findIn K (.ref C) "__setattr__" = some (some (.builtin "object.__setattr__"))) (mkC : PySem.W.makesIn K C = true) (kcC : PySem.W.keepIn K (.ref C) = true)
    (n_manner : PySem.W.findIn K (.ref C) "manner" = some none)
    (n_entries : PySem.W.findIn K (.ref C) "entries" = some none)
    (n_weights : PySem.W.findIn K (.ref C) "weights" = some none)
    (z_len : PySem.W.nsIn K mainGlobals "len" = some none)
    (z_int : PySem.W.nsIn K mainGlobals "int" = some none)
    (z_abs : PySem.W.nsIn K mainGlobals "abs" = some none)
    (z_list : PySem.W.nsIn K mainGlobals "list" = some none)
    (z_tuple : PySem.W.nsIn K mainGlobals "tuple" = some none)
    (z_range : PySem.W.nsIn K mainGlobals "range" = some none)
    (z_min : PySem.W.nsIn K mainGlobals "min" = some none)
    (z_isinstance : PySem.W.nsIn K mainGlobals "isinstance" = some none)
    (z_enumerate : PySem.W.nsIn K mainGlobals "enumerate" = some none)
    (z_bool : PySem.W.nsIn K mainGlobals "bool" = some none)
    (z_str : PySem.W.nsIn K mainGlobals "str" = some none)
    (z_all : PySem.W.nsIn K mainGlobals "all" = some none)
    (z_any : PySem.W.nsIn K mainGlobals "any" = some none)
    (z_sum : PySem.W.nsIn K mainGlobals "sum" = some none)
    (z_max : PySem.W.nsIn K mainGlobals "max" = some none)
    (z_sorted : PySem.W.nsIn K mainGlobals "sorted" = some none)
    (z_zip : PySem.W.nsIn K mainGlobals "zip" = some none)
    (g_LONGEST_FORM : PySem.W.nsIn K mainGlobals "LONGEST_FORM" = some (some (.int 8 u0)))
    (g_MARKS : PySem.W.nsIn K mainGlobals "MARKS" = some (some (.int 6 u1)))
    (g_MOST_ENTRIES : PySem.W.nsIn K mainGlobals "MOST_ENTRIES" = some (some (.int 40 u2)))
    (g_MOST_WEIGHT : PySem.W.nsIn K mainGlobals "MOST_WEIGHT" = some (some (.int 1000000 u3)))
    (aM0 : PySem.W.nsIn K mainGlobals "MANNERS" = some (some (.ref aM))) (lM : K.lookup aM = some ⟨.type "tuple", odM, .seq #[.str "row" w0, .str "within" w1, .str "weights" w2, .str "most" w3] nM, slM⟩) :
    ∃ fd : FuncData, (∀ (s : Shared) (v : Value), BindsTo s fd ⟨[v], []⟩ [("script", v)]) ∧ ∀ base : Heap, K.In base → base.Ns mainGlobals mg → FnOk l.prog w K mg base CX0 8 fa fd ["script"] (spLaw K) := by
  have e := hfa.symm.trans (PySem.W.mg_of X G a33)
  cases e
  have T : Txt mg := ⟨PySem.W.mg_none_of X G z_len, PySem.W.mg_none_of X G z_int, PySem.W.mg_none_of X G z_abs, PySem.W.mg_none_of X G z_list, PySem.W.mg_none_of X G z_tuple, PySem.W.mg_none_of X G z_range, PySem.W.mg_none_of X G z_min, PySem.W.mg_none_of X G z_isinstance, PySem.W.mg_none_of X G z_enumerate, PySem.W.mg_none_of X G z_bool, PySem.W.mg_none_of X G z_str, PySem.W.mg_none_of X G z_all, PySem.W.mg_none_of X G z_any, PySem.W.mg_none_of X G z_sum, PySem.W.mg_none_of X G z_max, PySem.W.mg_none_of X G z_sorted, PySem.W.mg_none_of X G z_zip⟩
  have c : Cst mg := ⟨u0, u1, u2, u3, PySem.W.mg_of X G g_LONGEST_FORM, PySem.W.mg_of X G g_MARKS, PySem.W.mg_of X G g_MOST_ENTRIES, PySem.W.mg_of X G g_MOST_WEIGHT⟩
  have B : BkTxt K mg C aM := ⟨⟨pgC, hdC, poC, saC⟩, n_manner, n_entries, n_weights, PySem.W.mg_of X G aC, PySem.W.mg_of X G aM0, fun H => .inr ⟨_, _, _, lM, rfl, rfl, (by show 4 ≤ sizeLine; decide), .cons ⟨_, rfl⟩ (.cons ⟨_, rfl⟩ (.cons ⟨_, rfl⟩ (.cons ⟨_, rfl⟩ (.nil))))⟩⟩
  have F_is_integer := fun_mk (st := sIsInteger) l0 c0 k0
  have b_is_integer := F_is_integer.binds (ps := ["thing"]) fun _ _ _ _ _ _ us hl => match us, hl with | [_], _ => rfl
  have F_is_between := fun_mk (st := sIsBetween) l1 c1 k1
  have b_is_between := F_is_between.binds (ps := ["low", "high", "thing"]) fun _ _ _ _ _ _ us hl => match us, hl with | [_, _, _], _ => rfl
  have F_is_cell := fun_mk (st := sIsCell) l2 c2 k2
  have b_is_cell := F_is_cell.binds (ps := ["many", "thing"]) fun _ _ _ _ _ _ us hl => match us, hl with | [_, _], _ => rfl
  have F_is_form := fun_mk (st := sIsForm) l3 c3 k3
  have b_is_form := F_is_form.binds (ps := ["thing"]) fun _ _ _ _ _ _ us hl => match us, hl with | [_], _ => rfl
  have F_lies_within := fun_mk (st := sLiesWithin) l4 c4 k4
  have b_lies_within := F_lies_within.binds (ps := ["inner", "outer"]) fun _ _ _ _ _ _ us hl => match us, hl with | [_, _], _ => rfl
  have F_is_entry := fun_mk (st := sIsEntry) l5 c5 k5
  have b_is_entry := F_is_entry.binds (ps := ["thing"]) fun _ _ _ _ _ _ us hl => match us, hl with | [_], _ => rfl
  have F_are_entries := fun_mk (st := sAreEntries) l6 c6 k6
  have b_are_entries := F_are_entries.binds (ps := ["thing"]) fun _ _ _ _ _ _ us hl => match us, hl with | [_], _ => rfl
  have F_are_weights := fun_mk (st := sAreWeights) l7 c7 k7
  have b_are_weights := F_are_weights.binds (ps := ["manner", "thing"]) fun _ _ _ _ _ _ us hl => match us, hl with | [_, _], _ => rfl
  have F_fitting := fun_mk (st := sFitting) l8 c8 k8
  have b_fitting := F_fitting.binds (ps := ["book", "cell"]) fun _ _ _ _ _ _ us hl => match us, hl with | [_, _], _ => rfl
  have F_rank := fun_mk (st := sRank) l9 c9 k9
  have b_rank := F_rank.binds (ps := ["book", "number"]) fun _ _ _ _ _ _ us hl => match us, hl with | [_, _], _ => rfl
  have F_highest := fun_mk (st := sHighest) l10 c10 k10
  have b_highest := F_highest.binds (ps := ["book", "numbers"]) fun _ _ _ _ _ _ us hl => match us, hl with | [_, _], _ => rfl
  have F_speaking := fun_mk (st := sSpeaking) l11 c11 k11
  have b_speaking := F_speaking.binds (ps := ["book", "numbers"]) fun _ _ _ _ _ _ us hl => match us, hl with | [_, _], _ => rfl
  have F_holds_all := fun_mk (st := sHoldsAll) l12 c12 k12
  have b_holds_all := F_holds_all.binds (ps := ["book", "number", "numbers"]) fun _ _ _ _ _ _ us hl => match us, hl with | [_, _, _], _ => rfl
  have F_in_quarrel := fun_mk (st := sInQuarrel) l13 c13 k13
  have b_in_quarrel := F_in_quarrel.binds (ps := ["book", "numbers"]) fun _ _ _ _ _ _ us hl => match us, hl with | [_, _], _ => rfl
  have F_is_outdone := fun_mk (st := sIsOutdone) l14 c14 k14
  have b_is_outdone := F_is_outdone.binds (ps := ["book", "number", "numbers"]) fun _ _ _ _ _ _ us hl => match us, hl with | [_, _, _], _ => rfl
  have F_speaker := fun_mk (st := sSpeaker) l15 c15 k15
  have b_speaker := F_speaker.binds (ps := ["book", "cell"]) fun _ _ _ _ _ _ us hl => match us, hl with | [_, _], _ => rfl
  have F_law_deck := fun_mk (st := sLawDeck) l16 c16 k16
  have b_law_deck := F_law_deck.binds (ps := ["script"]) fun _ _ _ _ _ _ us hl => match us, hl with | [_], _ => rfl
  have F_law_take := fun_mk (st := sLawTake) l17 c17 k17
  have b_law_take := F_law_take.binds (ps := ["deck", "many"]) fun _ _ _ _ _ _ us hl => match us, hl with | [_, _], _ => rfl
  have F_law_mixed := fun_mk (st := sLawMixed) l18 c18 k18
  have b_law_mixed := F_law_mixed.binds (ps := ["deck", "things"]) fun _ _ _ _ _ _ us hl => match us, hl with | [_, _], _ => rfl
  have F_law_word := fun_mk (st := sLawWord) l19 c19 k19
  have b_law_word := F_law_word.binds (ps := ["deck"]) fun _ _ _ _ _ _ us hl => match us, hl with | [_], _ => rfl
  have F_law_words := fun_mk (st := sLawWords) l20 c20 k20
  have b_law_words := F_law_words.binds (ps := ["deck", "most"]) fun _ _ _ _ _ _ us hl => match us, hl with | [_, _], _ => rfl
  have F_law_lots := fun_mk (st := sLawLots) l21 c21 k21
  have b_law_lots := F_law_lots.binds (ps := ["items"]) fun _ _ _ _ _ _ us hl => match us, hl with | [_], _ => rfl
  have F_law_family := fun_mk (st := sLawFamily) l22 c22 k22
  have b_law_family := F_law_family.binds (ps := ["deck"]) fun _ _ _ _ _ _ us hl => match us, hl with | [_], _ => rfl
  have F_law_in := fun_mk (st := sLawIn) l23 c23 k23
  have b_law_in := F_law_in.binds (ps := ["one", "other"]) fun _ _ _ _ _ _ us hl => match us, hl with | [_, _], _ => rfl
  have F_law_proper := fun_mk (st := sLawProper) l24 c24 k24
  have b_law_proper := F_law_proper.binds (ps := ["one", "other"]) fun _ _ _ _ _ _ us hl => match us, hl with | [_, _], _ => rfl
  have F_law_marks := fun_mk (st := sLawMarks) l25 c25 k25
  have b_law_marks := F_law_marks.binds (ps := ["deck", "cells"]) fun _ _ _ _ _ _ us hl => match us, hl with | [_, _], _ => rfl
  have F_law_entries := fun_mk (st := sLawEntries) l26 c26 k26
  have b_law_entries := F_law_entries.binds (ps := ["deck", "cells", "words", "most"]) fun _ _ _ _ _ _ us hl => match us, hl with | [_, _, _, _], _ => rfl
  have F_law_weights := fun_mk (st := sLawWeights) l27 c27 k27
  have b_law_weights := F_law_weights.binds (ps := ["deck"]) fun _ _ _ _ _ _ us hl => match us, hl with | [_], _ => rfl
  have F_law_sum := fun_mk (st := sLawSum) l28 c28 k28
  have b_law_sum := F_law_sum.binds (ps := ["weights", "marks"]) fun _ _ _ _ _ _ us hl => match us, hl with | [_, _], _ => rfl
  have F_law_fits := fun_mk (st := sLawFits) l29 c29 k29
  have b_law_fits := F_law_fits.binds (ps := ["entries", "cell"]) fun _ _ _ _ _ _ us hl => match us, hl with | [_, _], _ => rfl
  have F_law_beats := fun_mk (st := sLawBeats) l30 c30 k30
  have b_law_beats := F_law_beats.binds (ps := ["manner", "weights", "one", "other"]) fun _ _ _ _ _ _ us hl => match us, hl with | [_, _, _, _], _ => rfl
  have F_law_speaks := fun_mk (st := sLawSpeaks) l31 c31 k31
  have b_law_speaks := F_law_speaks.binds (ps := ["manner", "entries", "weights", "cell"]) fun _ _ _ _ _ _ us hl => match us, hl with | [_, _, _, _], _ => rfl
  have F_law_like := fun_mk (st := sLawLike) l32 c32 k32
  have b_law_like := F_law_like.binds (ps := ["told", "due"]) fun _ _ _ _ _ _ us hl => match us, hl with | [_, _], _ => rfl
  have F_law := fun_mk (st := sLaw) l33 c33 k33
  have b_law := F_law.binds (ps := ["script"]) fun _ _ _ _ _ _ us hl => match us, hl with | [_], _ => rfl
  have F_init := fun_mk (st := sBookInit) l34 c34 k34
  have b_init := F_init.binds (ps := ["self", "manner", "entries", "weights"]) fun _ _ _ _ _ _ us hl => match us, hl with | [_, _, _, _], _ => rfl
  refine ⟨PySem.W.fnOf "law" "law" (defArgs sLaw) (defBody sLaw) (defScope sLaw) .none kV33 dc33 pm33 an33 cd33 ct33, fun s v => .of_eq rfl, fun base _ _ => ?_⟩
  have HT : Has l.prog w K mg base "_law_take" ["deck", "many"] 1 spTake := ⟨f17, _, ok_take F_law_take T, PySem.W.mg_of X G a17, k17, b_law_take⟩
  have HD : Has l.prog w K mg base "_law_deck" ["script"] 1 (spDeck K) := ⟨f16, _, ok_deck F_law_deck T, PySem.W.mg_of X G a16, k16, b_law_deck⟩
  have HM : Has l.prog w K mg base "_law_mixed" ["deck", "things"] 2 (spMixed K) := ⟨f18, _, ok_mixed F_law_mixed T HT, PySem.W.mg_of X G a18, k18, b_law_mixed⟩
  have HWd : Has l.prog w K mg base "_law_word" ["deck"] 2 spWord := ⟨f19, _, ok_word F_law_word T HT, PySem.W.mg_of X G a19, k19, b_law_word⟩
  have HWs : Has l.prog w K mg base "_law_words" ["deck", "most"] 3 spWords := ⟨f20, _, ok_words F_law_words T HT HWd, PySem.W.mg_of X G a20, k20, b_law_words⟩
  have HL : Has l.prog w K mg base "_law_lots" ["items"] 1 (spLots K) := ⟨f21, _, ok_lots F_law_lots, PySem.W.mg_of X G a21, k21, b_law_lots⟩
  have HFa : Has l.prog w K mg base "_law_family" ["deck"] 3 spFamily := ⟨f22, _, ok_family F_law_family T HT HL HM, PySem.W.mg_of X G a22, k22, b_law_family⟩
  have HIn : Has l.prog w K mg base "_law_in" ["one", "other"] 1 spIn := ⟨f23, _, ok_in F_law_in T, PySem.W.mg_of X G a23, k23, b_law_in⟩
  have HMa : Has l.prog w K mg base "_law_marks" ["deck", "cells"] 2 (spMarks K) := ⟨f25, _, ok_marks F_law_marks T HT, PySem.W.mg_of X G a25, k25, b_law_marks⟩
  have HEn : Has l.prog w K mg base "_law_entries" ["deck", "cells", "words", "most"] 3 (spEntries K) := ⟨f26, _, ok_entries F_law_entries T HT HMa, PySem.W.mg_of X G a26, k26, b_law_entries⟩
  have HWt : Has l.prog w K mg base "_law_weights" ["deck"] 2 spWeights := ⟨f27, _, ok_weightsL F_law_weights T HT, PySem.W.mg_of X G a27, k27, b_law_weights⟩
  have HFt : Has l.prog w K mg base "_law_fits" ["entries", "cell"] 2 (spFits K) := ⟨f29, _, ok_fits F_law_fits T HIn, PySem.W.mg_of X G a29, k29, b_law_fits⟩
  have HPr : Has l.prog w K mg base "_law_proper" ["one", "other"] 2 spProper := ⟨f24, _, ok_proper F_law_proper T HIn, PySem.W.mg_of X G a24, k24, b_law_proper⟩
  have HSu : Has l.prog w K mg base "_law_sum" ["weights", "marks"] 1 spSum := ⟨f28, _, ok_sum F_law_sum T, PySem.W.mg_of X G a28, k28, b_law_sum⟩
  have HBe : Has l.prog w K mg base "_law_beats" ["manner", "weights", "one", "other"] 3 spBeats := ⟨f30, _, ok_beats F_law_beats T HPr HSu, PySem.W.mg_of X G a30, k30, b_law_beats⟩
  have HSp : Has l.prog w K mg base "_law_speaks" ["manner", "entries", "weights", "cell"] 4 (spSpeaks K) := ⟨f31, _, ok_speaks F_law_speaks T HFt HBe, PySem.W.mg_of X G a31, k31, b_law_speaks⟩
  have G0 := ok_like0 (P := l.prog) (w := w) (base := base) F_law_like T
  have HL0 : Has l.prog w K mg base "_law_like" ["told", "due"] 1 spLike0 := ⟨f32, _, G0, PySem.W.mg_of X G a32, k32, b_law_like⟩
  have G1 := ok_like1 F_law_like T HL0
  have HL1 : Has l.prog w K mg base "_law_like" ["told", "due"] 2 spLike01 := ⟨f32, _, ok_like01 G0 G1, PySem.W.mg_of X G a32, k32, b_law_like⟩
  have HLk : Has l.prog w K mg base "_law_like" ["told", "due"] 3 spLike2 := ⟨f32, _, ok_like2 F_law_like T HL1, PySem.W.mg_of X G a32, k32, b_law_like⟩
  have HI : Has l.prog w K mg base "is_integer" ["thing"] 1 spIsInteger := ⟨f0, _, ok_integer F_is_integer T, PySem.W.mg_of X G a0, k0, b_is_integer⟩
  have HB : Has l.prog w K mg base "is_between" ["low", "high", "thing"] 2 spBetween := ⟨f1, _, ok_between F_is_between HI, PySem.W.mg_of X G a1, k1, b_is_between⟩
  have HC : Has l.prog w K mg base "is_cell" ["many", "thing"] 3 spIsCell := ⟨f2, _, ok_cell F_is_cell T HB, PySem.W.mg_of X G a2, k2, b_is_cell⟩
  have HF : Has l.prog w K mg base "is_form" ["thing"] 1 spIsForm := ⟨f3, _, ok_form F_is_form T c, PySem.W.mg_of X G a3, k3, b_is_form⟩
  have HLi : Has l.prog w K mg base "lies_within" ["inner", "outer"] 1 spLies := ⟨f4, _, ok_lies F_lies_within, PySem.W.mg_of X G a4, k4, b_lies_within⟩
  have HE : Has l.prog w K mg base "is_entry" ["thing"] 4 spIsEntry := ⟨f5, _, ok_entry F_is_entry T c HC HF, PySem.W.mg_of X G a5, k5, b_is_entry⟩
  have HA : Has l.prog w K mg base "_are_entries" ["thing"] 5 spAreEntries := ⟨f6, _, ok_are F_are_entries T c HE, PySem.W.mg_of X G a6, k6, b_are_entries⟩
  have HW : Has l.prog w K mg base "_are_weights" ["manner", "thing"] 3 spAreWeights := ⟨f7, _, ok_weights F_are_weights T c HB, PySem.W.mg_of X G a7, k7, b_are_weights⟩
  have HBk : HasC l.prog w K mg base "Book" C ["self", "manner", "entries", "weights"] 6 (spBook C) := ⟨f34, _, ok_book F_init T B HA HW, ⟨mkC, a34, i34, kcC⟩, PySem.W.mg_of X G aC, b_init⟩
  have HFi : Has l.prog w K mg base "fitting" ["book", "cell"] 4 (spFitting C) := ⟨f8, _, ok_fitting F_fitting T c B HC HLi, PySem.W.mg_of X G a8, k8, b_fitting⟩
  have HRk : Has l.prog w K mg base "rank" ["book", "number"] 1 (spRank C) := ⟨f9, _, ok_rank F_rank T B, PySem.W.mg_of X G a9, k9, b_rank⟩
  have HHi : Has l.prog w K mg base "_highest" ["book", "numbers"] 2 (spHighest C) := ⟨f10, _, ok_highest F_highest T HRk, PySem.W.mg_of X G a10, k10, b_highest⟩
  have HHo : Has l.prog w K mg base "_holds_all" ["book", "number", "numbers"] 2 (spHolds C) := ⟨f12, _, ok_holds F_holds_all T B HLi, PySem.W.mg_of X G a12, k12, b_holds_all⟩
  have HOu : Has l.prog w K mg base "_is_outdone" ["book", "number", "numbers"] 2 (spOutdone C) := ⟨f14, _, ok_outdone F_is_outdone T B HLi, PySem.W.mg_of X G a14, k14, b_is_outdone⟩
  have HQu : Has l.prog w K mg base "_in_quarrel" ["book", "numbers"] 3 (spQuarrel C) := ⟨f13, _, ok_quarrel F_in_quarrel T B HHi HOu, PySem.W.mg_of X G a13, k13, b_in_quarrel⟩
  have HSk : Has l.prog w K mg base "speaking" ["book", "numbers"] 3 (spSpeaking C) := ⟨f11, _, ok_speaking F_speaking T B HHi HHo, PySem.W.mg_of X G a11, k11, b_speaking⟩
  have HSr : Has l.prog w K mg base "speaker" ["book", "cell"] 5 (spSpeaker C) := ⟨f15, _, ok_speaker F_speaker B HFi HSk HQu, PySem.W.mg_of X G a15, k15, b_speaker⟩
  exact ok_law F_law T HD HT HFa HWs HEn HWt HM HSp HLk HSr HBk
theorem walk {l : PySem.W.OpenLaw} {q : Program} {loose : List Str} {XP : (Str → Option Value) → Heap → Prop} {YP : World → Heap → Prop} {d : DefRec} {K : Params → PySem.W.Frag} (hn : l.most = some 63) (hdf : d.params.defaults = [])
    (hY : ∀ (w : World) (h : Heap), YP w h → (K w.params).In h)
    (F : ∀ (w : World) (mg : Str → Option Value) (fa : Addr) (h : Heap), (K w.params).In h → h.Ns mainGlobals mg → mg d.name = some (.ref fa) →
      ∃ fd : FuncData, (∀ (s : Shared) (u : Value), BindsTo s fd ⟨[u], []⟩ [("script", u)]) ∧ ∀ base : Heap, (K w.params).In base → base.Ns mainGlobals mg → FnOk l.prog w (K w.params) mg base CX0 8 fa fd ["script"] (spLaw (K w.params))) :
    PySem.W.WalkO q loose XP YP l.row.toRowW d [] (fun f vs => PySem.call f vs) :=
  L2.walk_of (n := 63) (k := 8) (x := "script") (CX := fun _ => CX0) (sp := fun w => spLaw (K w.params)) hn (by decide) hdf ⟨rfl, by decide, by decide⟩ hY F (fun _ _ a ns hl _ hS => ⟨a, ns, rfl, hS, hl, fun _ => rfl⟩) fun _ _ _ _ _ z => z
end Xci
open PySem PySem.W PyProof.Rows in
set_option maxRecDepth 100000 in
set_option maxHeartbeats 0 in
theorem PySem.Challenge.cw_sameforms_k13_whole_the_greatest_one_spe_holds : PySem.Challenge.rw_sameforms_k13_whole_the_greatest_one_spe.Holds := by
  w_on; o_law; k_head; (case hw => w_witness2)
  k_fill
  refine Xci.walk (l := PySem.Challenge.rw_sameforms_k13_whole_the_greatest_one_spe) rfl rfl (fun w h Y => PySem.W.kIn_of Y) ?F
  case F =>
    intro w mg fa h KX G hmg
    refine' Xci.all_mk KX G hmg ?a0 ?l0 ?c0 ?k0 ?a1 ?l1 ?c1 ?k1 ?a2 ?l2 ?c2 ?k2 ?a3 ?l3 ?c3 ?k3 ?a4 ?l4 ?c4 ?k4 ?a5 ?l5 ?c5 ?k5 ?a6 ?l6 ?c6 ?k6 ?a7 ?l7 ?c7 ?k7 ?a8 ?l8 ?c8 ?k8 ?a9 ?l9 ?c9 ?k9 ?a10 ?l10 ?c10 ?k10 ?a11 ?l11 ?c11 ?k11 ?a12 ?l12 ?c12 ?k12 ?a13 ?l13 ?c13 ?k13 ?a14 ?l14 ?c14 ?k14 ?a15 ?l15 ?c15 ?k15 ?a16 ?l16 ?c16 ?k16 ?a17 ?l17 ?c17 ?k17 ?a18 ?l18 ?c18 ?k18 ?a19 ?l19 ?c19 ?k19 ?a20 ?l20 ?c20 ?k20 ?a21 ?l21 ?c21 ?k21 ?a22 ?l22 ?c22 ?k22 ?a23 ?l23 ?c23 ?k23 ?a24 ?l24 ?c24 ?k24 ?a25 ?l25 ?c25 ?k25 ?a26 ?l26 ?c26 ?k26 ?a27 ?l27 ?c27 ?k27 ?a28 ?l28 ?c28 ?k28 ?a29 ?l29 ?c29 ?k29 ?a30 ?l30 ?c30 ?k30 ?a31 ?l31 ?c31 ?k31 ?a32 ?l32 ?c32 ?k32 ?a33 ?l33 ?c33 ?k33 ?a34 ?i34 ?l34 ?c34 ?k34 ?aC ?pgC ?hdC ?poC ?saC ?mkC ?kcC ?n_manner ?n_entries ?n_weights ?z_len ?z_int ?z_abs ?z_list ?z_tuple ?z_range ?z_min ?z_isinstance ?z_enumerate ?z_bool ?z_str ?z_all ?z_any ?z_sum ?z_max ?z_sorted ?z_zip ?g_LONGEST_FORM ?g_MARKS ?g_MOST_ENTRIES ?g_MOST_WEIGHT ?aM0 ?lM
    (case aC => k_is)
    (case aM0 => k_is)
    (case a0 => k_is)
    (case l0 => k_is)
    (case c0 => k_is)
    (case k0 => k_is)
    (case a1 => k_is)
    (case l1 => k_is)
    (case c1 => k_is)
    (case k1 => k_is)
    (case a2 => k_is)
    (case l2 => k_is)
    (case c2 => k_is)
    (case k2 => k_is)
    (case a3 => k_is)
    (case l3 => k_is)
    (case c3 => k_is)
    (case k3 => k_is)
    (case a4 => k_is)
    (case l4 => k_is)
    (case c4 => k_is)
    (case k4 => k_is)
    (case a5 => k_is)
    (case l5 => k_is)
    (case c5 => k_is)
    (case k5 => k_is)
    (case a6 => k_is)
    (case l6 => k_is)
    (case c6 => k_is)
    (case k6 => k_is)
    (case a7 => k_is)
    (case l7 => k_is)
    (case c7 => k_is)
    (case k7 => k_is)
    (case a8 => k_is)
    (case l8 => k_is)
    (case c8 => k_is)
    (case k8 => k_is)
    (case a9 => k_is)
    (case l9 => k_is)
    (case c9 => k_is)
    (case k9 => k_is)
    (case a10 => k_is)
    (case l10 => k_is)
    (case c10 => k_is)
    (case k10 => k_is)
    (case a11 => k_is)
    (case l11 => k_is)
    (case c11 => k_is)
    (case k11 => k_is)
    (case a12 => k_is)
    (case l12 => k_is)
    (case c12 => k_is)
    (case k12 => k_is)
    (case a13 => k_is)
    (case l13 => k_is)
    (case c13 => k_is)
    (case k13 => k_is)
    (case a14 => k_is)
    (case l14 => k_is)
    (case c14 => k_is)
    (case k14 => k_is)
    (case a15 => k_is)
    (case l15 => k_is)
    (case c15 => k_is)
    (case k15 => k_is)
    (case a16 => k_is)
    (case l16 => k_is)
    (case c16 => k_is)
    (case k16 => k_is)
    (case a17 => k_is)
    (case l17 => k_is)
    (case c17 => k_is)
    (case k17 => k_is)
    (case a18 => k_is)
    (case l18 => k_is)
    (case c18 => k_is)
    (case k18 => k_is)
    (case a19 => k_is)
    (case l19 => k_is)
    (case c19 => k_is)
    (case k19 => k_is)
    (case a20 => k_is)
    (case l20 => k_is)
    (case c20 => k_is)
    (case k20 => k_is)
    (case a21 => k_is)
    (case l21 => k_is)
    (case c21 => k_is)
    (case k21 => k_is)
    (case a22 => k_is)
    (case l22 => k_is)
    (case c22 => k_is)
    (case k22 => k_is)
    (case a23 => k_is)
    (case l23 => k_is)
    (case c23 => k_is)
    (case k23 => k_is)
    (case a24 => k_is)
    (case l24 => k_is)
    (case c24 => k_is)
    (case k24 => k_is)
    (case a25 => k_is)
    (case l25 => k_is)
    (case c25 => k_is)
    (case k25 => k_is)
    (case a26 => k_is)
    (case l26 => k_is)
    (case c26 => k_is)
    (case k26 => k_is)
    (case a27 => k_is)
    (case l27 => k_is)
    (case c27 => k_is)
    (case k27 => k_is)
    (case a28 => k_is)
    (case l28 => k_is)
    (case c28 => k_is)
    (case k28 => k_is)
    (case a29 => k_is)
    (case l29 => k_is)
    (case c29 => k_is)
    (case k29 => k_is)
    (case a30 => k_is)
    (case l30 => k_is)
    (case c30 => k_is)
    (case k30 => k_is)
    (case a31 => k_is)
    (case l31 => k_is)
    (case c31 => k_is)
    (case k31 => k_is)
    (case a32 => k_is)
    (case l32 => k_is)
    (case c32 => k_is)
    (case k32 => k_is)
    (case a33 => k_is)
    (case l33 => k_is)
    (case c33 => k_is)
    (case k33 => k_is)
    (case a34 => k_is)
    (case i34 => k_is)
    (case l34 => k_is)
    (case c34 => k_is)
    (case k34 => k_is)
    (case pgC => k_is)
    (case hdC => k_is)
    (case poC => k_is)
    (case saC => k_is)
    (case mkC => k_is)
    (case kcC => k_is)
    (case n_manner => k_is)
    (case n_entries => k_is)
    (case n_weights => k_is)
    (case z_len => k_is)
    (case z_int => k_is)
    (case z_abs => k_is)
    (case z_list => k_is)
    (case z_tuple => k_is)
    (case z_range => k_is)
    (case z_min => k_is)
    (case z_isinstance => k_is)
    (case z_enumerate => k_is)
    (case z_bool => k_is)
    (case z_str => k_is)
    (case z_all => k_is)
    (case z_any => k_is)
    (case z_sum => k_is)
    (case z_max => k_is)
    (case z_sorted => k_is)
    (case z_zip => k_is)
    (case g_LONGEST_FORM => k_is)
    (case g_MARKS => k_is)
    (case g_MOST_ENTRIES => k_is)
    (case g_MOST_WEIGHT => k_is)
    (case lM => k_is)
