"""Programs written out, that run long and in many ways, each with plain closed terms."""

NATS = """made nat | zer | suc n nat
def add m nat to nat | zer : m | suc : (make suc (ask n add m))
def mul m nat to nat | suc : (ask (ask n mul m) add m) | zer : (make zer)
def fac to nat | zer : (make suc (make zer)) | suc : (ask (make suc n) mul (ask n fac))
def count to number | suc : (+ 1 (ask n count)) | zer : 0
def pred to nat | suc : n"""
NAT_TERMS = (
    "(make zer)",
    "(ask (make suc (make suc (make zer))) add (make suc (make zer)))",
    "(ask (ask (make suc (make suc (make suc (make zer)))) fac) count)",
    "(ask (ask (ask (make suc (make zer)) pred) pred) count)",
    "(let three (make suc (make suc (make suc (make zer)))) (+ (ask three count) (* 1000 (ask (ask three mul three) count))))",
    "(ask (make suc (make suc (make suc (make suc (make suc (make zer)))))) fac)",
)

FLOWS = """asked flow | now to number | rest to flow | first most number to list | at k number to number
tab from low number | now : low | rest : (make from (+ low 1)) | first : (zero most (make nil) (make cons low (ask (make from (+ low 1)) first (- most 1)))) | at : (+ low k)
tab each by fun of flow | at : (ask by call (ask of at k)) | now : (ask by call (ask of now)) | rest : (make each by (ask of rest)) | first : (zero most (make nil) (let x (ask by call (ask of now)) (make cons x (ask (make each by (ask of rest)) first (- most 1)))))
tab both one flow two flow | now : (ask one now) | rest : (make both two (ask one rest)) | at : (zero k (ask one now) (ask (make both two (ask one rest)) at (- k 1)))
asked fun | call arg number to number | then next fun to fun
tab plus by number | call : (+ arg by) | then : (make comp (make plus by) next)
tab times by number | call : (* arg by) | then : (make comp (make times by) next)
tab comp one fun two fun | call : (ask two call (ask one call arg)) | then : (make comp one (ask two then next))
made list | nil | cons head number tail list
def sum to number | nil : 0 | cons : (+ head (ask tail sum))
def map by fun to list | cons : (make cons (ask by call head) (ask tail map by)) | nil : (make nil)
def flow to flow | cons : (make both (make from head) (ask tail flow)) | nil : (make from 0)
def last to number | cons : (ask tail next head)
def next ahead number to number | nil : ahead | cons : (ask tail next head)"""
FLOW_TERMS = (
    "(ask (make from 3) first 5)",
    "(ask (ask (make from 3) first 5) sum)",
    "(ask (make each (ask (make plus 1) then (make times 3)) (make from 10)) first 4)",
    "(ask (make both (make from 10) (make each (make plus 7) (make from 100))) at 9)",
    "(ask (make both (make from 10) (make from 20)) first 2)",
    "(ask (ask (ask (make from 3) first 4) map (ask (ask (make plus 999999) then (make plus 1)) then (make times 2))) last)",
    "(ask (make nil) last)",
    "(ask (ask (ask (ask (make from 5) first 3) flow) rest) now)",
    "(ask (ask (make from 0) first 70) sum)",
    "(make both (make from 1) (ask (make both (make from 2) (make from 3)) rest))",
    "(zero (ask (make from 0) now) (ask (make from 1) at 3) (ask (make nil) last))",
)

# Cases and news within one another, of both sides: with lets and taken names that are called like fields and
# params of the kinds they come to, and tables within the terms that cases tell.
NESTED = """made list | nil | cons head number tail list
def sum to number | nil : 0 | cons : (+ head (case tail to number | nil : 0 | cons h t : (+ h (ask t sum))))
def map by fun to list | nil : (make nil) | cons : (make cons (ask by call head) (ask tail map (new fun | call x : (let arg x (ask by call arg)))))
def sort to list | cons : (let low (ask tail sort) (ask (ask (make box low) put head) out)) | nil : (make nil)
def fold with fun from number to number | cons : (let arg (ask with call (+ head from)) (ask (new fun | call next : (ask tail fold with (+ arg next))) call arg)) | nil : from
def less than number to number | cons : (case (case tail to list | cons a b : b) to number | cons a b : (case tail to number | cons c d : (+ (- than a) c)) | nil : 5)
asked fun | call arg number to number | then next fun to fun
tab plus by number | call : (+ arg by) | then : (let head by (new fun | call x : (let y (+ x head) (ask next call y)) | then arg : (new fun | call z : (ask arg call (+ head z)))))
tab pick l list | call : (let head arg (case l to number | cons b t : (zero head b (ask (new fun | call k : (let tail (+ k b) (case t to number | cons next other : (let out (+ (* next k) tail) (+ out b)) | nil : (- k tail)))) call (- head 1))) | nil : head)) | then : (new fun | call x : (ask (new fun | call y : (+ y (ask next call (+ x y)))) call (ask (new fun | call z : (+ z (ask l sum))) call x)))
asked box | put x number to box | out to list
tab box l list | out : l | put : (new box | out : (case l to list | cons y ys : (let d (ask (make small) minus y x) (zero d (make cons y (ask (ask (make box ys) put x) out)) (make cons x l))) | nil : (make cons x (make nil))) | put y : (ask (new box | out : l | put z : (make box (make cons z (make cons x l)))) put y))
made small | small
def minus a number b number to number | small : (case (make small) to number | small : (zero (- a b) 0 (ask (new fun | call c : (case (make cons c (make nil)) to number | cons x y : (- x b))) call a)))"""
ABC = "(make cons 3 (make cons 1 (make cons 2 (make nil))))"
NESTED_TERMS = (
    f"(ask {ABC} sum)",
    f"(ask {ABC} sort)",
    f"(ask (ask {ABC} map (make plus 4)) sum)",
    f"(ask {ABC} map (ask (make plus 4) then (make plus 5)))",
    f"(ask {ABC} fold (ask (ask (make plus 4) then (make pick {ABC})) then (make plus 1)) 7)",
    f"(ask (make pick {ABC}) call 0)",
    f"(ask (make pick {ABC}) call 8)",
    "(ask (make pick (make nil)) call 8)",
    f"(ask (ask (make pick {ABC}) then (make plus 3)) call 8)",
    f"(ask (ask (make pick {ABC}) then (make plus 3)) then (make plus 2))",
    f"(ask (make pick {ABC}) then (ask (make plus 1) then (make plus 2)))",
    "(ask (make cons 3 (make cons 4 (make nil))) less 9)",
    f"(ask {ABC} less 9)",
    "(ask (make nil) less 9)",
    "(ask (ask (ask (ask (make box (make nil)) put 3) put 4) put 5) out)",
    "(ask (ask (make box (make cons 1 (make nil))) put 3) put 4)",
    "(ask (make box (make cons 5 (make nil))) put 3)",
)

# Runs without an end, and some that end by values too great.
GROWING = """made tree | leaf | fork l tree r tree
def grow to tree | leaf : (make fork (make leaf) (make leaf)) | fork : (make fork (ask l grow) (ask r grow))
def more k number to tree | leaf : (zero k (make leaf) (ask (ask (make leaf) grow) more (- k 1))) | fork : (zero k (make fork l r) (ask (ask (make fork l r) grow) more (- k 1)))
def deep k number to tree | leaf : (zero k (make leaf) (ask (make fork (make leaf) (make leaf)) deep (- k 1))) | fork : (zero k (make fork l r) (ask (make fork (make fork l r) (make leaf)) deep (- k 1)))
def spin to number | leaf : (ask (make leaf) spin) | fork : (+ 1 (ask l spin))
asked link | pull to link | long k number to number
tab end | pull : (make end)
tab more l link | pull : (new link | pull : (make more (new link | pull : l)) | long k : (ask l long (+ k 1))) | long : (ask (ask (make more (make more l)) pull) long (+ k 1))"""
GROWING_TERMS = (
    "(ask (make leaf) more 3)", "(ask (make leaf) more 6)", "(ask (make leaf) more 7)", "(ask (make leaf) more 8)",
    "(ask (make leaf) deep 59)", "(ask (make leaf) deep 60)", "(ask (make leaf) deep 61)",
    "(ask (make leaf) spin)", "(ask (make fork (make leaf) (make leaf)) spin)",
    "(ask (make end) pull)", "(ask (ask (make more (make end)) pull) pull)", "(ask (make more (make end)) long 0)",
    "(ask (make end) long 0)",
)

ALL = ((NATS, NAT_TERMS), (FLOWS, FLOW_TERMS), (NESTED, NESTED_TERMS), (GROWING, GROWING_TERMS))
FLAT = ((NATS, NAT_TERMS), (FLOWS, FLOW_TERMS))
